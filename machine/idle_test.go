package machine

import (
	"testing"

	"bellows/api"
)

// P15.3: an L1 is idle when all its lines are at rest. Of a whole machine no line is on its way without a message or an entry that is Busy, so that it is asked here.
func TestIdle(t *testing.T) {
	for state := api.Shd; state <= api.Dirty; state++ {
		if atRest(state) != (state <= api.Mod) {
			t.Errorf("state %d: at rest: %v", state, atRest(state))
		}
	}
	c := api.Config{Cores: 2, Lines: 4, Volatile: 1, Sets: 1, Ways: 4, Queue: 1, Store: 1}
	m, e := New(c, nil, make([][]uint64, 2), nil)
	if e != api.OK {
		t.Fatalf("New: %d", e)
	}
	check := func(what string, want ...bool) {
		t.Helper()
		for id := range c.Cores {
			if got := m.isIdle(id); got != want[id] {
				t.Errorf("%s: core %d idle: %v", what, id, got)
			}
		}
	}
	s := m.system
	check("no line", true, true)
	for line := range c.Lines {
		s.Store(1, line, 0, 7)
		check("asked", true, false)
		s.Up(1)
		check("on its way", true, false)
		s.Hear(1)
		check("there", true, true)
	}
	s.Evict(1, 2)
	check("on its way out", true, false)
}

// P15.3: a message in any of a core's queues. An answer alone is always of an entry that is Busy, so that it is asked here.
func TestStill(t *testing.T) {
	m, e := New(api.Config{Cores: 1, Lines: 2, Volatile: 1, Sets: 1, Ways: 1, Queue: 1, Store: 1}, nil, [][]uint64{nil}, nil)
	if e != api.OK {
		t.Fatalf("New: %d", e)
	}
	check := func(what string, want bool) {
		t.Helper()
		if got := m.isStill(0); got != want {
			t.Errorf("%s: still: %v", what, got)
		}
	}
	s := m.system
	check("nothing", true)
	s.Load(0, 1, 0)
	check("up", false)
	s.Up(0)
	check("down", false)
	s.Hear(0)
	check("heard", true)
	s.Flush(0, 1, api.Wipe)
	s.Up(0)
	s.Hear(0)
	check("an answer", false)
	s.Answer(0)
	check("answered", true)
}
