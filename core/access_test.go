package core_test

import (
	"math"
	"slices"
	"testing"

	"bellows/api"
	"bellows/core"
	"bellows/mesi"
	"bellows/sbuf"
)

// pair is a core and its system.
type pair struct {
	c *core.Core
	s *mesi.System
}

// accesses are one of each operation that has an address: register 1 and 0, or register 1 alone.
var accesses = []api.Ins{
	on(api.Ld, 2, 1, 0), on(api.St, 2, 1, 0), on(api.Clwb, 0, 1, 0), on(api.Opt, 0, 1, 0), on(api.Flush, 0, 1, 0),
	three(api.Cas, 2, 1, 3), three(api.Xadd, 2, 1, 3),
}

// stateOf is the state that the line has in core 1's L1.
func stateOf(s *mesi.System, line int) int {
	for _, x := range s.Slots(1) {
		if x.Line == line {
			return x.State
		}
	}
	return api.Inv
}

// usedOf is when the line was last used in core 1's L1.
func usedOf(s *mesi.System, line int) int {
	for _, x := range s.Slots(1) {
		if x.Line == line {
			return x.Used
		}
	}
	return 0
}

// P13.2: addresses that there are not trap, of each operation that has one; those beside them do not.
func TestTrapOfAddress(t *testing.T) {
	for _, i := range accesses {
		for _, addr := range []int64{1, 2, 3, 4, 5, 6, 7, 9, 63, 65, 249, 255, 256, 257, 264, 4096, 1 << 30, math.MaxInt32, -1, -7, -8, -9, -64, -256, math.MinInt32} {
			c, s := newCore(t, li(1, addr), li(2, 5), i), newSystem(t)
			exec(t, c, s, 2)
			checkTraps(t, "no address", pair{c, s})
			checkPlace(t, c, "no address", 2)
		}
		for addr := int64(0); addr < 256; addr += 8 {
			c, s := newCore(t, li(1, addr), li(2, 5), i), newSystem(t)
			exec(t, c, s, 2)
			for _, e := range c.Exec(s) {
				if e.Kind == api.EvTrap || e.Line != int(addr/64) {
					t.Errorf("%+v at %d: %+v", i, addr, e)
				}
			}
			checkRuns(t, c, "an address", true)
		}
	}
}

// P13.2: the address is register B and Imm together, modulo 2^64.
func TestSumOfAddress(t *testing.T) {
	for _, x := range []struct {
		b, imm int64
		line   int // -1: there is none
		word   int
	}{
		{0, 0, 0, 0}, {0, 248, 3, 7}, {248, 0, 3, 7}, {128, 72, 3, 1}, {65, 7, 1, 1}, {63, 1, 1, 0}, {64, -64, 0, 0}, {-8, 72, 1, 0}, {-64, 64, 0, 0},
		{math.MaxInt32, math.MinInt32 + 1 + 136, 2, 1}, {math.MinInt32, math.MaxInt32, -1, 0}, {math.MinInt32, math.MaxInt32 - 7, -1, 0},
		{0, 256, -1, 0}, {248, 8, -1, 0}, {64, 1, -1, 0}, {0, -8, -1, 0}, {64, -72, -1, 0}, {-8, 4, -1, 0},
	} {
		for _, op := range []int{api.Ld, api.St, api.Clwb, api.Opt, api.Flush} {
			i := on(op, 0, 7, x.imm)
			c, s := newCore(t, li(7, x.b), i), newSystem(t)
			exec(t, c, s, 1)
			if x.line < 0 {
				checkTraps(t, "no address", pair{c, s})
				continue
			}
			got := c.Exec(s)
			switch op {
			case api.Ld:
				checkEvents(t, "ld", got)
				checkAsked(t, s, "ld", api.Msg{Kind: api.GetS, Line: x.line})
				moves(s, c)
				checkEvents(t, "ld", c.Exec(s), is(api.EvLoad, x.line, x.word, first(x.line, x.word)))
			case api.St:
				checkEvents(t, "st", got, is(api.EvIssue, x.line, x.word, 0))
			default:
				checkEvents(t, "a flush", got, is(api.EvWant, x.line, 0, 0))
			}
		}
	}
}

// P13.2: what traps by its address does so too where it would else wait: the buffer full, or not empty, or a flush not answered.
func TestTrapDoesNotWait(t *testing.T) {
	for _, i := range accesses {
		c, s := ofWords(t, 1, 1, code(t, li(1, 257), on(api.St, 0, 0, 64), i)), newSystem(t)
		exec(t, c, s, 1)
		c.Exec(s)
		checkTraps(t, "a full buffer", pair{c, s})
		c, s = newCore(t, li(1, 4), on(api.Clwb, 0, 0, 64), i), newSystem(t)
		exec(t, c, s, 1)
		c.Exec(s)
		c.Drain(s)
		checkWaits(t, c, "not answered", 1)
		checkTraps(t, "not answered", pair{c, s})
	}
}

// P13.2: a load that does not hit asks for the line, once, and stays; when the line is there, it reads it.
func TestLoad(t *testing.T) {
	for line := range shape.Lines {
		for word := range api.Words {
			for _, a := range []int{0, 1, 7} { // 1 is the register of its address, too
				c, s := newCore(t, li(1, int64(64*line)), on(api.Ld, a, 1, int64(8*word))), newSystem(t)
				exec(t, c, s, 1)
				was := look(c)
				for range 3 {
					checkEvents(t, "no hit", c.Exec(s))
					checkSame(t, c, "no hit", was)
					checkAsked(t, s, "no hit", api.Msg{Kind: api.GetS, Line: line})
				}
				checkEvents(t, "moves", moves(s, c))
				checkEvents(t, "a hit", c.Exec(s), is(api.EvLoad, line, word, first(line, word)))
				was.regs[a], was.place = first(line, word), 2
				checkSame(t, c, "a hit", was)
			}
		}
	}
}

// P13.2: a load that hits is a use of the line; one that the store buffer answers is none, and asks for nothing.
func TestLoadUses(t *testing.T) {
	c, s := newCore(t, on(api.Ld, 2, 0, 64), on(api.Ld, 2, 0, 128), on(api.Ld, 3, 0, 64), on(api.St, 3, 0, 128), on(api.Ld, 4, 0, 128), on(api.St, 3, 0, 192), on(api.Ld, 5, 0, 192)), newSystem(t)
	for range 2 {
		c.Exec(s)
		moves(s, c)
		c.Exec(s)
	}
	one, two := usedOf(s, 1), usedOf(s, 2)
	c.Exec(s)
	if got := usedOf(s, 1); got <= max(one, two) {
		t.Errorf("a hit: used %d; was %d, the other one %d", got, one, two)
	}
	c.Exec(s)
	checkEvents(t, "its own", c.Exec(s), is(api.EvOwn, 2, 0, 1000))
	if got := usedOf(s, 2); got != two {
		t.Errorf("its own: used %d; was %d", got, two)
	}
	c.Exec(s)
	checkEvents(t, "its own", c.Exec(s), is(api.EvOwn, 3, 0, 1000))
	checkAsked(t, s, "its own")
}

// P13.2, P13.5: a core reads its own last store to that very word, 0 too, as long as it is in its buffer; else what all see.
func TestLoadOwn(t *testing.T) {
	prog := slices.Concat(setAll(5, 7, 0), []api.Ins{
		on(api.Clwb, 0, 0, 64), on(api.St, 1, 0, 64), on(api.St, 2, 0, 72), on(api.St, 3, 0, 64),
		on(api.Ld, 4, 0, 64), on(api.Ld, 5, 0, 72), on(api.Ld, 6, 0, 80), on(api.Ld, 7, 0, 136),
	})
	c, s := newCore(t, prog...), newSystem(t)
	for range 7 {
		c.Exec(s)
	}
	checkEvents(t, "the last one", c.Exec(s), is(api.EvOwn, 1, 0, 0))
	checkEvents(t, "the next word", c.Exec(s), is(api.EvOwn, 1, 1, 7))
	checkEvents(t, "a word without a store", c.Exec(s))
	moves(s, c)
	checkEvents(t, "a word without a store", c.Exec(s), is(api.EvLoad, 1, 2, 1002))
	checkEvents(t, "the same word of another line", c.Exec(s))
	moves(s, c)
	checkEvents(t, "the same word of another line", c.Exec(s), is(api.EvLoad, 2, 1, 2001))
	if got := c.Regs(); got != [8]uint64{0, 5, 7, 0, 0, 7, 1002, 2001} {
		t.Errorf("registers %v", got)
	}
}

// P13.5: of two cores that store to one word each reads its own store, the third one neither.
func TestLoadOthers(t *testing.T) {
	s := newSystem(t)
	var l []*core.Core
	for id := range 3 {
		l = append(l, ofWords(t, id, 2, code(t, li(1, int64(5+id)), on(api.St, 1, 0, 64), on(api.Ld, 2, 0, 64))))
	}
	for id, c := range l[:2] {
		c.Exec(s)
		c.Exec(s)
		checkEvents(t, "its own", c.Exec(s), api.Event{Kind: api.EvOwn, Core: id, Line: 1, Val: uint64(5 + id)})
	}
	s.Load(2, 1, 0)
	moves(s, l[1])
	c := ofWords(t, 2, 2, code(t, on(api.Ld, 2, 0, 64)))
	checkEvents(t, "neither", c.Exec(s), api.Event{Kind: api.EvLoad, Core: 2, Line: 1, Val: 1000})
}

// P13.2: St puts each register at each word into the buffer; neither the L1 nor the system is asked.
func TestStore(t *testing.T) {
	for line := range shape.Lines {
		for word := range api.Words {
			for _, a := range []int{1, 2} { // 1 is the register of its address, too
				c, s := newCore(t, li(1, int64(64*line)), li(2, -1), on(api.St, a, 1, int64(8*word))), newSystem(t)
				exec(t, c, s, 2)
				was := look(c)
				v := was.regs[a]
				checkEvents(t, "st", c.Exec(s), is(api.EvIssue, line, word, v))
				was.place, was.buffer = 3, []sbuf.Entry{{Kind: api.St, Line: line, Word: word, Val: v}}
				checkSame(t, c, "st", was)
				checkAsked(t, s, "st")
			}
		}
	}
}

// P13.2: flushes go into the buffer with their line alone.
func TestWant(t *testing.T) {
	for _, op := range []int{api.Clwb, api.Opt, api.Flush} {
		for line := range shape.Lines {
			for word := range api.Words {
				c, s := newCore(t, li(1, int64(64*line)), on(op, 0, 1, int64(8*word))), newSystem(t)
				exec(t, c, s, 1)
				was := look(c)
				checkEvents(t, "a flush", c.Exec(s), is(api.EvWant, line, 0, 0))
				was.place, was.buffer = 2, []sbuf.Entry{{Kind: op, Line: line}}
				checkSame(t, c, "a flush", was)
				checkAsked(t, s, "a flush")
			}
		}
	}
}

// P13.2: of a full buffer neither stores nor flushes do anything, till an entry is gone.
func TestFullBuffer(t *testing.T) {
	for _, i := range accesses[1:5] {
		c, s := ofWords(t, 1, 2, code(t, li(1, 64), on(api.St, 0, 0, 64), on(api.Clwb, 0, 0, 128), i)), newSystem(t)
		for range 3 {
			c.Exec(s)
		}
		was := look(c)
		for range 3 {
			checkEvents(t, "full", c.Exec(s))
			checkSame(t, c, "full", was)
		}
		c.Drain(s)
		moves(s, c)
		checkEvents(t, "drained", c.Drain(s), is(api.EvStore, 1, 0, 0))
		if l := c.Exec(s); len(l) != 1 || len(c.Buffer()) != 2 || c.Place() != 4 {
			t.Errorf("%+v: %+v, buffer %+v, at %d", i, l, c.Buffer(), c.Place())
		}
	}
}

// P13.2: fences go by only when the buffer is empty and all flushes are answered.
func TestFences(t *testing.T) {
	for _, op := range []int{api.Sfen, api.Mfen} {
		c, s := newCore(t, plainOp(op), on(api.St, 0, 0, 64), plainOp(op), on(api.Clwb, 0, 0, 64), plainOp(op), plainOp(op)), newSystem(t)
		fence := func(what string, want ...api.Event) {
			t.Helper()
			was := look(c)
			was.place += len(want)
			checkEvents(t, what, c.Exec(s), want...)
			checkSame(t, c, what, was)
		}
		fence("at first", is(api.EvFence, 0, 0, 0))
		c.Exec(s)
		fence("a store")
		c.Drain(s)
		fence("asked")
		moves(s, c)
		fence("not drained")
		c.Drain(s)
		fence("drained", is(api.EvFence, 0, 0, 0))
		c.Exec(s)
		fence("a flush")
		c.Drain(s)
		checkBuffer(t, c, "sent")
		fence("sent")
		fence("still sent")
		moves(s, c)
		fence("answered", is(api.EvFence, 0, 0, 0))
		fence("another one", is(api.EvFence, 0, 0, 0))
	}
}

// P13.2: behind a Flush that was answered a fence waits till it is gone from the buffer, too.
func TestFenceBehindFlush(t *testing.T) {
	c, s := newCore(t, on(api.Flush, 0, 0, 64), plainOp(api.Sfen)), newSystem(t)
	c.Exec(s)
	c.Drain(s)
	moves(s, c)
	checkWaits(t, c, "answered", 0)
	checkEvents(t, "still in the buffer", c.Exec(s))
	c.Drain(s)
	checkEvents(t, "gone", c.Exec(s), is(api.EvFence, 0, 0, 0))
}

// owns lets core 1 own the line, and write it or not.
func owns(t *testing.T, s *mesi.System, c *core.Core, line int, writes bool) {
	t.Helper()
	for range 3 {
		if s.Reach(1, line) {
			break
		}
		moves(s, c)
	}
	if writes {
		s.Store(1, line, 7, first(line, 7))
	}
	if got := stateOf(s, line); got != api.Exc && got != api.Mod {
		t.Fatalf("line %d is %d; want one of the core's own", line, got)
	}
}

// P13.2: Cas and Xadd ask for the line and stay, till the core owns it; then they read and write as one.
func TestChange(t *testing.T) {
	for _, x := range []struct {
		i      api.Ins
		stores bool
		v      uint64
	}{
		{three(api.Cas, 2, 1, 3), true, 7}, // register 2 is what stands there
		{three(api.Cas, 4, 1, 3), false, 0},
		{three(api.Cas, 2, 1, 2), true, 1003},
		{three(api.Cas, 1, 1, 3), false, 0},
		{three(api.Cas, 2, 1, 1), true, 88},
		{three(api.Xadd, 4, 1, 3), true, 1010},
		{three(api.Xadd, 3, 1, 3), true, 1010},
		{three(api.Xadd, 1, 1, 1), true, 1091},
		{three(api.Xadd, 2, 1, 0), true, 1003},
		{three(api.Xadd, 2, 1, 4), true, 1002},
	} {
		c, s := newCore(t, append(setAll(88, 1003, 7, -1), x.i, on(api.Ld, 7, 0, 88))...), newSystem(t)
		exec(t, c, s, 4)
		was := look(c)
		for range 3 {
			checkEvents(t, "not reached", c.Exec(s))
			checkSame(t, c, "not reached", was)
			checkAsked(t, s, "not reached", api.Msg{Kind: api.GetM, Line: 1})
		}
		moves(s, c)
		want := []api.Event{is(api.EvRmw, 1, 3, 1003)}
		now := uint64(1003)
		if x.stores {
			want, now = append(want, is(api.EvStore, 1, 3, x.v)), x.v
		}
		checkEvents(t, "reached", c.Exec(s), want...)
		was.regs[x.i.A], was.place = 1003, 5
		checkSame(t, c, "reached", was)
		checkEvents(t, "read again", c.Exec(s), is(api.EvLoad, 1, 3, now))
	}
}

// P13.2: Cas of equal words stores, even what stands there; the line is written only then.
func TestChangeOfLine(t *testing.T) {
	for _, x := range []struct {
		i    api.Ins
		want int
	}{
		{three(api.Cas, 2, 1, 3), api.Exc},
		{three(api.Cas, 0, 1, 0), api.Mod},
		{three(api.Xadd, 2, 1, 0), api.Mod},
	} {
		c, s := newCore(t, li(1, 8), li(2, 5), x.i), newSystem(t)
		exec(t, c, s, 2)
		owns(t, s, c, 0, false)
		c.Exec(s)
		checkPlace(t, c, "owned", 3)
		if got := stateOf(s, 0); got != x.want {
			t.Errorf("%+v: the line is %d; want %d", x.i, got, x.want)
		}
	}
}

// P13.2: Cas and Xadd of a line that others read make them forget it first.
func TestChangeOfShared(t *testing.T) {
	for _, i := range []api.Ins{three(api.Cas, 2, 1, 3), three(api.Xadd, 2, 1, 3)} {
		c, s := newCore(t, append(setAll(88, 1003, 7), i)...), newSystem(t)
		exec(t, c, s, 3)
		for _, id := range []int{0, 1, 2} {
			s.Load(id, 1, 3)
			moves(s, c)
		}
		if got := stateOf(s, 1); got != api.Shd {
			t.Fatalf("the line is %d; want Shd", got)
		}
		checkEvents(t, "shared", c.Exec(s))
		checkPlace(t, c, "shared", 3)
		moves(s, c)
		if l := c.Exec(s); len(l) != 2 || l[0] != is(api.EvRmw, 1, 3, 1003) {
			t.Errorf("%+v: %+v", i, l)
		}
		for _, id := range []int{0, 2} {
			if v, hit := s.Load(id, 1, 3); hit {
				t.Errorf("%+v: core %d still reads %d", i, id, v)
			}
		}
	}
}

// P13.2: Cas and Xadd wait till the buffer is empty and all flushes are answered, and ask for nothing till then.
func TestChangeWaits(t *testing.T) {
	for _, i := range []api.Ins{three(api.Cas, 2, 1, 3), three(api.Xadd, 2, 1, 3)} {
		for _, own := range []bool{false, true} {
			c, s := newCore(t, li(1, 64), on(api.St, 1, 0, 128), on(api.Clwb, 0, 0, 192), i), newSystem(t)
			exec(t, c, s, 1)
			c.Exec(s)
			c.Exec(s)
			owns(t, s, c, 2, false)
			if own {
				owns(t, s, c, 1, true)
			}
			was := look(c)
			checkEvents(t, "a store and a flush", c.Exec(s))
			checkSame(t, c, "a store and a flush", was)
			c.Drain(s)
			checkEvents(t, "a flush", c.Exec(s))
			checkAsked(t, s, "a flush")
			c.Drain(s)
			checkBuffer(t, c, "sent")
			checkEvents(t, "not answered", c.Exec(s))
			checkAsked(t, s, "not answered", api.Msg{Kind: api.Clean, Line: 3})
			checkPlace(t, c, "not answered", 3)
			moves(s, c)
			checkWaits(t, c, "answered", 0)
			if !own {
				checkEvents(t, "not reached", c.Exec(s))
				moves(s, c)
			}
			if l := c.Exec(s); len(l) == 0 || l[0] != is(api.EvRmw, 1, 0, 1000) {
				t.Errorf("%+v: %+v", i, l)
			}
		}
	}
}

// P13.2: of Cores that the system has not, nothing hits and nothing is reached; stores wait in the buffer.
func TestCoreBeyondSystem(t *testing.T) {
	for _, i := range []api.Ins{on(api.Ld, 2, 0, 64), three(api.Cas, 2, 1, 3), three(api.Xadd, 2, 1, 3)} {
		c, s := ofWords(t, 3, 4, code(t, i)), newSystem(t)
		for range 3 {
			checkEvents(t, "beyond", c.Exec(s))
			moves(s, c)
			checkFresh(t, c, "beyond")
		}
	}
	c, s := ofWords(t, 7, 4, code(t, on(api.St, 0, 0, 64), plainOp(api.Sfen))), newSystem(t)
	c.Exec(s)
	for range 3 {
		checkEvents(t, "beyond", c.Drain(s))
		moves(s, c)
		checkEvents(t, "beyond", c.Exec(s))
	}
	checkBuffer(t, c, "beyond", sbuf.Entry{Kind: api.St, Line: 1})
}
