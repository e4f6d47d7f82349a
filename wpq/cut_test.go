package wpq

import (
	"testing"

	"bellows/api"
	"bellows/nvm"
)

// checkSpare holds that nothing is left in the spare room of the entries.
func checkSpare(t *testing.T, q *Queue, what string) {
	t.Helper()
	for i, x := range q.entries[len(q.entries):cap(q.entries)] {
		if x != (entry{}) {
			t.Errorf("%s: %d places behind the end: %v", what, i, x)
		}
	}
}

// Ways: what is cut off the slice of entries is cleared.
func TestCutClears(t *testing.T) {
	for first := range 4 {
		d, _ := nvm.New(5, 1)
		q, _ := New(d, 4)
		for line := range 4 {
			if e := q.Push(line, api.Line{uint64(line) + 1}); e != api.OK {
				t.Fatalf("Push(%d): %d", line, e)
			}
		}
		if e := q.Drain(first); e != api.OK {
			t.Errorf("Drain(%d): %d", first, e)
		}
		checkSpare(t, q, "drained")
		q.Fail()
		checkSpare(t, q, "failed")
	}
}
