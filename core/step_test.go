package core

import (
	"testing"

	"bellows/api"
	"bellows/isa"
	"bellows/mesi"
)

func newSystem(t *testing.T) *mesi.System {
	t.Helper()
	s, e := mesi.New(api.Config{Cores: 2, Lines: 2, Volatile: 1, Sets: 1, Ways: 1, Queue: 1, Store: 1}, nil)
	if e != api.OK {
		t.Fatalf("mesi.New: %d", e)
	}
	return s
}

// newLoop is a core that comes by word again and again.
func newLoop(t *testing.T, word uint64) *Core {
	t.Helper()
	jump, _ := isa.Encode(api.Ins{Op: api.Jmp})
	c, e := New(1, 1, []uint64{word, jump, 1 << 20})
	if e != api.OK {
		t.Fatalf("New: %d", e)
	}
	return c
}

// checkRead holds which of the steps were read.
func checkRead(t *testing.T, c *Core, what string, want ...bool) {
	t.Helper()
	for n := range c.prog {
		read := c.prog[n].ins != (api.Ins{}) || c.prog[n].good
		if read != want[n] {
			t.Errorf("%s: step %d: read: %v", what, n, read)
		}
	}
}

// Ways: a word is decoded when the core comes to it, and not again, however often it comes by.
func TestDecodedOnce(t *testing.T) {
	s := newSystem(t)
	tell, _ := isa.Encode(api.Ins{Op: api.Tell, A: 3})
	c := newLoop(t, tell)
	checkRead(t, c, "new", false, false, false)
	if l := c.Exec(s); len(l) != 1 || l[0].Kind != api.EvTell {
		t.Fatalf("tell: %+v", l)
	}
	checkRead(t, c, "one step", true, false, false)
	c.Exec(s)
	checkRead(t, c, "two steps", true, true, false)
	for n := range c.prog {
		c.prog[n].word = 22 // read again, it would halt
	}
	for range 100 {
		if l := c.Exec(s); len(l) != 1 || l[0].Kind != api.EvTell {
			t.Fatalf("tell again: %+v", l)
		}
		if l := c.Exec(s); len(l) != 0 || c.Place() != 0 {
			t.Fatalf("jmp again: %+v, at %d", l, c.Place())
		}
	}
}

// Ways: what was read of a word is what is executed.
func TestDecodedIsExecuted(t *testing.T) {
	s := newSystem(t)
	c := newLoop(t, 0)
	c.Exec(s)
	c.Exec(s)
	c.prog[0].ins = api.Ins{Op: api.Li, A: 5, Imm: 77}
	c.Exec(s)
	if got := c.Regs()[5]; got != 77 {
		t.Errorf("register 5 is %d; want the 77 that was read", got)
	}
	c.Exec(s)
	c.prog[0].good = false
	if l := c.Exec(s); len(l) != 1 || l[0].Kind != api.EvTrap {
		t.Errorf("no instruction was read: %+v", l)
	}
}

// Ways: a word of no instruction is decoded once, too.
func TestNoInstructionIsDecodedOnce(t *testing.T) {
	steps := stepsOf([]uint64{23, 0})
	for n := range 3 {
		if i, ok := steps[0].instruction(); i != (api.Ins{}) || ok {
			t.Errorf("reading %d: %+v, %v; want none", n, i, ok)
		}
		steps[0].word = 0
	}
	if i, ok := steps[1].instruction(); i != (api.Ins{}) || !ok {
		t.Errorf("nop: %+v, %v", i, ok)
	}
}

// Ways: two cores of one program decode it each for itself.
func TestEachCoreDecodes(t *testing.T) {
	s := newSystem(t)
	one, two := newLoop(t, 0), newLoop(t, 0)
	one.Exec(s)
	checkRead(t, one, "one", true, false, false)
	checkRead(t, two, "two", false, false, false)
}
