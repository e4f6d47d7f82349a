package core_test

import (
	"math"
	"slices"
	"testing"

	"bellows/api"
	"bellows/core"
	"bellows/isa"
	"bellows/mesi"
	"bellows/sbuf"
)

// shape is that of the systems of these tests: four lines, all of which an L1 has room for.
var shape = api.Config{Cores: 3, Lines: 4, Volatile: 1, Sets: 1, Ways: 4, Queue: 4, Store: 4}

// far are numbers of no core and no room; some come to good ones where bits are lost.
var far = []int{math.MinInt, math.MinInt + 1, -1 << 32, -1<<32 + 3, -256, -9, -8, -7, -2, -1, 17, 18, 64, 256, 257, 259, 1 << 31, 1 << 32, 1<<32 + 1, 1<<32 + 3, math.MaxInt - 1, math.MaxInt}

// first is what the word has at first.
func first(line, word int) uint64 {
	if line < shape.Volatile {
		return 0
	}
	return uint64(1000*line + word)
}

func newSystem(t *testing.T) *mesi.System {
	t.Helper()
	img := make([]api.Line, shape.Lines)
	for line := range img {
		for word := range img[line] {
			img[line][word] = first(line, word)
		}
	}
	s, e := mesi.New(shape, img)
	if e != api.OK {
		t.Fatalf("mesi.New: %d", e)
	}
	return s
}

func code(t *testing.T, l ...api.Ins) []uint64 {
	t.Helper()
	var prog []uint64
	for _, i := range l {
		u, e := isa.Encode(i)
		if e != api.OK {
			t.Fatalf("Encode(%+v): %d", i, e)
		}
		prog = append(prog, u)
	}
	return prog
}

// ofWords is a core of these words.
func ofWords(t *testing.T, id, room int, prog []uint64) *core.Core {
	t.Helper()
	c, e := core.New(id, room, prog)
	if c == nil || e != api.OK {
		t.Fatalf("New(%d, %d, %d words): %v, %d; want a core", id, room, len(prog), c, e)
	}
	return c
}

// newCore is core 1 with room for four entries.
func newCore(t *testing.T, l ...api.Ins) *core.Core {
	t.Helper()
	return ofWords(t, 1, 4, code(t, l...))
}

func li(a int, imm int64) api.Ins { return api.Ins{Op: api.Li, A: a, Imm: imm} }

// on is an instruction with an address, or a jump.
func on(op, a, b int, imm int64) api.Ins { return api.Ins{Op: op, A: a, B: b, Imm: imm} }

// three is an instruction of three registers.
func three(op, a, b, c int) api.Ins { return api.Ins{Op: op, A: a, B: b, C: c} }

// plainOp is an instruction without parts.
func plainOp(op int) api.Ins { return api.Ins{Op: op} }

func tell(a int) api.Ins { return api.Ins{Op: api.Tell, A: a} }

// setAll are instructions that give registers 1 to 7 the numbers l.
func setAll(l ...int64) []api.Ins {
	var out []api.Ins
	for n, v := range l {
		out = append(out, li(n+1, v))
	}
	return out
}

// is is an event of core 1.
func is(kind, line, word int, v uint64) api.Event {
	return api.Event{Kind: kind, Core: 1, Line: line, Word: word, Val: v}
}

// done is what a flush of that line is answered.
func done(line int) api.Msg { return api.Msg{Kind: api.Done, Line: line} }

func checkEvents(t *testing.T, what string, got []api.Event, want ...api.Event) {
	t.Helper()
	if !slices.Equal(got, want) {
		t.Errorf("%s: %+v; want %+v", what, got, want)
	}
}

// exec executes n instructions of which nothing is told.
func exec(t *testing.T, c *core.Core, s *mesi.System, n int) {
	t.Helper()
	for range n {
		checkEvents(t, "exec", c.Exec(s))
	}
}

func checkPlace(t *testing.T, c *core.Core, what string, want int) {
	t.Helper()
	if got := c.Place(); got != want {
		t.Errorf("%s: at %d; want %d", what, got, want)
	}
}

func checkRuns(t *testing.T, c *core.Core, what string, want bool) {
	t.Helper()
	if got := c.Runs(); got != want {
		t.Errorf("%s: runs: %v", what, got)
	}
}

func checkReg(t *testing.T, c *core.Core, what string, reg int, want uint64) {
	t.Helper()
	if got := c.Regs()[reg]; got != want {
		t.Errorf("%s: register %d is %d; want %d", what, reg, got, want)
	}
}

func checkBuffer(t *testing.T, c *core.Core, what string, want ...sbuf.Entry) {
	t.Helper()
	if got := c.Buffer(); !slices.Equal(got, want) {
		t.Errorf("%s: buffer %+v; want %+v", what, got, want)
	}
}

func checkWaits(t *testing.T, c *core.Core, what string, want int) {
	t.Helper()
	if got := c.Waits(); got != want {
		t.Errorf("%s: waits for %d; want %d", what, got, want)
	}
}

// view is all that a core tells.
type view struct {
	regs         [api.Regs]uint64
	place, waits int
	buffer       []sbuf.Entry
	runs         bool
}

func look(c *core.Core) view {
	return view{c.Regs(), c.Place(), c.Waits(), c.Buffer(), c.Runs()}
}

func (v view) same(w view) bool {
	return v.regs == w.regs && v.place == w.place && v.waits == w.waits && slices.Equal(v.buffer, w.buffer) && v.runs == w.runs
}

// checkSame holds that c tells what it told before.
func checkSame(t *testing.T, c *core.Core, what string, was view) {
	t.Helper()
	if now := look(c); !now.same(was) {
		t.Errorf("%s: it changed: %+v; was %+v", what, now, was)
	}
}

// asked are what the core's L1 asked, and the flushes that it sent, as long as none reached the L2.
func asked(s *mesi.System, id int) []api.Msg {
	up, _, _ := s.Queues(id)
	return up
}

func checkAsked(t *testing.T, s *mesi.System, what string, want ...api.Msg) {
	t.Helper()
	if got := asked(s, 1); !slices.Equal(got, want) {
		t.Errorf("%s: asked %+v; want %+v", what, got, want)
	}
}

// moves lets all messages move, and flushes go, till nothing does; c, which is core 1, hears its own. What it tells is told.
func moves(s *mesi.System, c *core.Core) []api.Event {
	var out []api.Event
	for moved := true; moved; {
		moved = false
		for id := range s.Config().Cores {
			m, e := s.Hear(id)
			if e == api.OK && id == 1 {
				out = append(out, c.Hear(m)...)
			}
			for _, e := range []api.Errno{e, s.Up(id), s.Answer(id)} {
				moved = moved || e == api.OK
			}
		}
		for line := range s.Config().Lines {
			moved = s.Push(line) == api.OK || s.Drain(line) == api.OK || moved
		}
	}
	return out
}

// checkFresh holds that c is as at first: it runs, at the beginning, with nothing.
func checkFresh(t *testing.T, c *core.Core, what string) {
	t.Helper()
	checkSame(t, c, what, view{runs: true})
}

// P13.1: every number of a core that there is, every room, programs up to the longest one.
func TestNew(t *testing.T) {
	for id := range 8 {
		for room := 1; room <= 16; room++ {
			for _, n := range []int{0, 1, 100, 4095, 4096} {
				checkFresh(t, ofWords(t, id, room, make([]uint64, n)), "new")
			}
		}
	}
	checkFresh(t, ofWords(t, 0, 1, nil), "without a program")
	checkFresh(t, ofWords(t, 0, 1, slices.Repeat([]uint64{math.MaxUint64}, 4096)), "words of no instruction")
}

// P13.1: wrong numbers of a core, wrong rooms, programs that are too long; of several faults the first one.
func TestNewWrong(t *testing.T) {
	long := make([]uint64, 4097)
	checkRefused := func(id, room int, prog []uint64, want api.Errno) {
		t.Helper()
		if c, e := core.New(id, room, prog); c != nil || e != want {
			t.Errorf("New(%d, %d, %d words): %v, %d; want nil, %d", id, room, len(prog), c, e, want)
		}
	}
	for _, n := range append([]int{8, 9, 16}, far...) {
		for _, room := range []int{0, 1, 16, 17} {
			checkRefused(n, room, nil, api.ErrArg)
			checkRefused(n, room, long, api.ErrArg)
		}
	}
	for _, room := range append([]int{0}, far...) {
		for _, id := range []int{0, 7} {
			checkRefused(id, room, nil, api.ErrArg)
			checkRefused(id, room, long, api.ErrArg)
		}
	}
	for _, n := range []int{4097, 4098, 5000, 8192, 1 << 16, 1<<16 + 1} {
		checkRefused(0, 1, make([]uint64, n), api.ErrMany)
		checkRefused(7, 16, make([]uint64, n), api.ErrMany)
	}
}

// P13.1: the store buffer has the room that it was given, and no more.
func TestRoom(t *testing.T) {
	for room := 1; room <= 16; room++ {
		c, s := ofWords(t, 1, room, code(t, slices.Repeat([]api.Ins{on(api.St, 0, 0, 64)}, 17)...)), newSystem(t)
		for n := range room {
			checkEvents(t, "room", c.Exec(s), is(api.EvIssue, 1, 0, 0))
			checkPlace(t, c, "room", n+1)
		}
		was := look(c)
		checkEvents(t, "full", c.Exec(s))
		checkSame(t, c, "full", was)
	}
}

// P13.1: of nil there is nothing to tell, and nothing is done.
func TestNil(t *testing.T) {
	var c *core.Core
	for _, s := range []*mesi.System{nil, newSystem(t)} {
		c.Stop()
		checkEvents(t, "Exec of nil", c.Exec(s))
		checkEvents(t, "Drain of nil", c.Drain(s))
		for kind := -1; kind <= 15; kind++ {
			checkEvents(t, "Hear of nil", c.Hear(api.Msg{Kind: kind, Line: 1}))
		}
		checkSame(t, c, "nil", view{})
		if s != nil {
			for id := range 3 {
				if up, answers, down := s.Queues(id); len(up)+len(answers)+len(down) != 0 {
					t.Errorf("nil lets messages go: %v, %v, %v", up, answers, down)
				}
			}
		}
	}
}

// P13.1: a core that is stopped executes no more; its place and registers stay, and it may be stopped again.
func TestStop(t *testing.T) {
	for n := range 4 {
		c, s := newCore(t, li(1, 5), li(2, 6), plainOp(api.Nop), plainOp(api.Nop)), newSystem(t)
		exec(t, c, s, n)
		was := look(c)
		was.runs = false
		for range 3 {
			c.Stop()
			checkSame(t, c, "stopped", was)
			checkEvents(t, "stopped", c.Exec(s))
			checkSame(t, c, "stopped", was)
		}
	}
}

// P13.1: of a core that is halted, or trapped, Stop changes nothing.
func TestStopTwice(t *testing.T) {
	for _, x := range []struct {
		i    api.Ins
		kind int
	}{{plainOp(api.Halt), api.EvHalt}, {on(api.Ld, 1, 0, 1), api.EvTrap}} {
		c, s := newCore(t, li(1, 5), x.i, plainOp(api.Nop)), newSystem(t)
		exec(t, c, s, 1)
		checkEvents(t, "the end", c.Exec(s), is(x.kind, 0, 0, 0))
		was := look(c)
		c.Stop()
		checkEvents(t, "stopped", c.Exec(s))
		checkSame(t, c, "stopped", was)
		checkPlace(t, c, "stopped", 1)
	}
}

// P13.3, P13.4: what a core that runs no more has in its buffer still goes, and its flushes are answered.
func TestDrainOfStopped(t *testing.T) {
	for _, ends := range []func(c *core.Core, s *mesi.System){
		func(c *core.Core, s *mesi.System) { c.Stop() },
		func(c *core.Core, s *mesi.System) { c.Exec(s) },
	} {
		c, s := newCore(t, on(api.St, 0, 0, 64), on(api.Clwb, 0, 0, 64), on(api.Flush, 0, 0, 128)), newSystem(t)
		for range 3 {
			c.Exec(s)
		}
		ends(c, s)
		checkRuns(t, c, "ended", false)
		checkEvents(t, "no hit", c.Drain(s))
		moves(s, c)
		checkEvents(t, "the store", c.Drain(s), is(api.EvStore, 1, 0, 0))
		checkEvents(t, "clwb", c.Drain(s), is(api.EvSend, 1, 0, 0))
		checkEvents(t, "flush", c.Drain(s), is(api.EvSend, 2, 0, 0))
		checkEvents(t, "answers", moves(s, c), is(api.EvFlush, 1, 0, 0), is(api.EvFlush, 2, 0, 0))
		checkEvents(t, "the flush goes", c.Drain(s))
		checkBuffer(t, c, "ended")
		checkWaits(t, c, "ended", 0)
		checkRuns(t, c, "ended", false)
	}
}

// What is handed in is not changed and not kept, its spare room included.
func TestProgramIsNotKept(t *testing.T) {
	all := code(t, li(1, 5), li(2, 6), tell(1), plainOp(api.Halt))
	prog := all[:2]
	was := slices.Clone(all)
	c, s := ofWords(t, 1, 1, prog), newSystem(t)
	if !slices.Equal(all, was) {
		t.Error("New changed the program")
	}
	clear(all)
	exec(t, c, s, 2)
	checkReg(t, c, "behind a changed program", 1, 5)
	checkReg(t, c, "behind a changed program", 2, 6)
	checkEvents(t, "behind its end", c.Exec(s), is(api.EvTrap, 0, 0, 0))
	if !slices.Equal(all, make([]uint64, 4)) {
		t.Error("Exec changed the program")
	}
}

// What is told is new memory, its spare room too.
func TestAnswersAreNew(t *testing.T) {
	c, s := newCore(t, on(api.St, 1, 0, 64), on(api.St, 1, 0, 72), on(api.St, 1, 0, 80)), newSystem(t)
	one := c.Exec(s)
	two := c.Exec(s)
	spoil(one)
	checkEvents(t, "the other answer", two, is(api.EvIssue, 1, 1, 0))
	l := c.Buffer()
	l = l[:cap(l)]
	for n := range l {
		l[n] = sbuf.Entry{Kind: api.Flush, Line: 3}
	}
	checkBuffer(t, c, "behind a changed answer", sbuf.Entry{Kind: api.St, Line: 1}, sbuf.Entry{Kind: api.St, Line: 1, Word: 1})
	regs := c.Regs()
	regs[1] = 77
	checkReg(t, c, "behind a changed answer", 1, 0)
	checkEvents(t, "the third one", c.Exec(s), is(api.EvIssue, 1, 2, 0))
	moves(s, c)
	c.Drain(s)
	moves(s, c)
	three := c.Drain(s)
	spoil(two)
	checkEvents(t, "the answer of Drain", three, is(api.EvStore, 1, 0, 0))
}

// spoil writes over all that a list has, and its spare room.
func spoil(l []api.Event) {
	l = l[:cap(l)]
	for n := range l {
		l[n] = is(-1, -1, -1, 77)
	}
}

// Two cores of one program share nothing.
func TestCoresAreApart(t *testing.T) {
	prog, s := code(t, li(1, 5), on(api.St, 1, 0, 64), plainOp(api.Halt)), newSystem(t)
	one, two := ofWords(t, 1, 2, prog), ofWords(t, 2, 2, prog)
	exec(t, one, s, 1)
	checkEvents(t, "one", one.Exec(s), is(api.EvIssue, 1, 0, 5))
	checkFresh(t, two, "the other one")
	exec(t, two, s, 1)
	checkEvents(t, "two", two.Exec(s), api.Event{Kind: api.EvIssue, Core: 2, Line: 1, Val: 5})
	checkEvents(t, "one", one.Exec(s), is(api.EvHalt, 0, 0, 0))
	checkRuns(t, two, "the other one", true)
	two.Stop()
	checkEvents(t, "two", two.Exec(s))
}
