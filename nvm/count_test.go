package nvm

import (
	"testing"

	"bellows/api"
)

// Ways: readings and writings are counted, each for itself, and only those that were done.
func TestCounts(t *testing.T) {
	d, _ := New(4, 2)
	steps := []struct {
		do            func()
		reads, writes uint64
	}{
		{func() {}, 0, 0},
		{func() { d.Read(3) }, 1, 0},
		{func() { d.Read(0) }, 2, 0},
		{func() { d.Write(0, api.Line{1}) }, 2, 1},
		{func() { d.Read(4) }, 2, 1},
		{func() { d.Write(-1, api.Line{1}) }, 2, 1},
		{func() { d.Restore(d.Image()) }, 2, 1},
		{d.Fail, 2, 1},
		{func() { d.Write(3, api.Line{}) }, 2, 2},
	}
	for i, s := range steps {
		s.do()
		if r, w := d.reads.Load(), d.writes.Load(); r != s.reads || w != s.writes {
			t.Errorf("step %d: %d readings, %d writings; want %d, %d", i, r, w, s.reads, s.writes)
		}
	}
}
