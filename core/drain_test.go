package core_test

import (
	"math"
	"slices"
	"testing"

	"bellows/api"
	"bellows/core"
	"bellows/mesi"
	"bellows/sbuf"
)

// flushes are the operations that flush, and the kind of message that each asks by.
var flushes = map[int]int{api.Clwb: api.Clean, api.Opt: api.Wipe, api.Flush: api.Wipe}

// many is core 1 with room for sixteen entries, and these executed.
func many(t *testing.T, s *mesi.System, l ...api.Ins) *core.Core {
	t.Helper()
	c := ofWords(t, 1, 16, code(t, l...))
	for range l {
		c.Exec(s)
	}
	checkPlace(t, c, "put into the buffer", len(l))
	return c
}

// P13.3: nothing, if the buffer is empty or no system is there.
func TestDrainNothing(t *testing.T) {
	s := newSystem(t)
	c := newCore(t, plainOp(api.Nop))
	checkEvents(t, "new", c.Drain(nil))
	checkEvents(t, "new", c.Drain(s))
	checkFresh(t, c, "new")
	for _, i := range []api.Ins{on(api.St, 0, 0, 64), on(api.Clwb, 0, 0, 64), on(api.Opt, 0, 0, 64), on(api.Flush, 0, 0, 64)} {
		c := many(t, s, i)
		was := look(c)
		checkEvents(t, "no system", c.Drain(nil))
		checkSame(t, c, "no system", was)
	}
	c = many(t, s, on(api.Flush, 0, 0, 64))
	c.Drain(s)
	moves(s, c)
	was := look(c)
	checkEvents(t, "no system, answered", c.Drain(nil))
	checkSame(t, c, "no system, answered", was)
}

// P13.3: a store asks for its line, once, and stays; with a hit it is gone, and all see it.
func TestDrainStore(t *testing.T) {
	for line := range shape.Lines {
		for word := range api.Words {
			s := newSystem(t)
			c := many(t, s, li(1, -5), on(api.St, 1, 0, int64(64*line+8*word)), on(api.Clwb, 0, 0, 0))
			was := look(c)
			for range 3 {
				checkEvents(t, "no hit", c.Drain(s))
				checkSame(t, c, "no hit", was)
				checkAsked(t, s, "no hit", api.Msg{Kind: api.GetM, Line: line})
			}
			moves(s, c)
			v := uint64(math.MaxUint64 - 4)
			checkEvents(t, "a hit", c.Drain(s), is(api.EvStore, line, word, v))
			was.buffer = was.buffer[1:]
			checkSame(t, c, "a hit", was)
			if got, hit := s.Load(1, line, word); got != v || !hit {
				t.Errorf("line %d, word %d: %d, %v", line, word, got, hit)
			}
		}
	}
}

// P13.3: Clwb and Opt are sent and gone; Flush is sent and stays, till its answer came.
func TestDrainFlush(t *testing.T) {
	for op, kind := range flushes {
		for line := range shape.Lines {
			s := newSystem(t)
			c := many(t, s, on(op, 0, 0, int64(64*line+8)), on(api.St, 0, 0, 0))
			was := look(c)
			checkEvents(t, "sent", c.Drain(s), is(api.EvSend, line, 0, 0))
			checkAsked(t, s, "sent", api.Msg{Kind: kind, Line: line})
			was.waits = 1
			if op == api.Flush {
				was.buffer[0].Sent = true
			} else {
				was.buffer = was.buffer[1:]
			}
			checkSame(t, c, "sent", was)
			checkEvents(t, "sent", c.Drain(s))
			checkSame(t, c, "sent", was)
			checkEvents(t, "answered", moves(s, c), is(api.EvFlush, line, 0, 0))
			was.waits = 0
			checkSame(t, c, "answered", was)
		}
	}
}

// P13.3: a Flush that was sent goes only when nothing is waited for, nothing is told of that, and one entry goes at a time.
func TestDrainSent(t *testing.T) {
	s := newSystem(t)
	c := many(t, s, on(api.Clwb, 0, 0, 64), on(api.Flush, 0, 0, 128), on(api.Flush, 0, 0, 192))
	c.Drain(s)
	checkEvents(t, "the first flush", c.Drain(s), is(api.EvSend, 2, 0, 0))
	last := sbuf.Entry{Kind: api.Flush, Line: 3}
	sent := sbuf.Entry{Kind: api.Flush, Line: 2, Sent: true}
	for waits := 2; waits > 0; waits-- {
		checkWaits(t, c, "sent", waits)
		checkEvents(t, "sent", c.Drain(s))
		checkBuffer(t, c, "sent", sent, last)
		checkEvents(t, "an answer", c.Hear(done(waits)), is(api.EvFlush, waits, 0, 0))
	}
	checkBuffer(t, c, "answered", sent, last)
	checkEvents(t, "it goes", c.Drain(s))
	checkBuffer(t, c, "gone", last)
	checkWaits(t, c, "gone", 0)
	checkAsked(t, s, "gone", api.Msg{Kind: api.Clean, Line: 1}, api.Msg{Kind: api.Wipe, Line: 2})
	checkEvents(t, "the next one", c.Drain(s), is(api.EvSend, 3, 0, 0))
	last.Sent = true
	checkBuffer(t, c, "the next one", last)
}

// sendMany lets core 1 send n flushes that nobody answers, of lines 0 to 3 in turn, and then put in the one of op, of line 2.
func sendMany(t *testing.T, s *mesi.System, n, op int) *core.Core {
	t.Helper()
	var l []api.Ins
	for i := range n {
		l = append(l, on(api.Clwb, 0, 0, int64(64*(i%4))))
	}
	c := ofWords(t, 1, 1, code(t, append(l, on(op, 0, 0, 128))...))
	for i := range n {
		c.Exec(s)
		checkEvents(t, "one of many", c.Drain(s), is(api.EvSend, i%4, 0, 0))
	}
	c.Exec(s)
	checkBuffer(t, c, "many", sbuf.Entry{Kind: op, Line: 2})
	checkWaits(t, c, "many", n)
	return c
}

// P13.3: no more than sixteen flushes are on their way; with each answer one more may go.
func TestMostFlushes(t *testing.T) {
	for op := range flushes {
		s := newSystem(t)
		c := sendMany(t, s, 15, op)
		checkEvents(t, "the sixteenth", c.Drain(s), is(api.EvSend, 2, 0, 0))
		checkWaits(t, c, "the sixteenth", 16)
		s = newSystem(t)
		c = sendMany(t, s, 16, op)
		was, up := look(c), asked(s, 1)
		for range 3 {
			checkEvents(t, "the seventeenth", c.Drain(s))
			checkSame(t, c, "the seventeenth", was)
			checkAsked(t, s, "the seventeenth", up...)
		}
		checkEvents(t, "an answer", c.Hear(done(3)), is(api.EvFlush, 3, 0, 0))
		checkWaits(t, c, "an answer", 15)
		checkEvents(t, "behind the answer", c.Drain(s), is(api.EvSend, 2, 0, 0))
		checkWaits(t, c, "behind the answer", 16)
	}
}

// P13.3: stores do not hang on how many flushes are on their way.
func TestStoreBehindMany(t *testing.T) {
	s := newSystem(t)
	var l []api.Ins
	for range 16 {
		l = append(l, on(api.Clwb, 0, 0, 64))
	}
	c := ofWords(t, 1, 2, code(t, append(l, on(api.St, 0, 0, 128))...))
	for range 16 {
		c.Exec(s)
		c.Drain(s)
	}
	c.Exec(s)
	s.Reach(1, 2)
	for range 17 {
		s.Up(1)
		s.Push(1)
	}
	for _, hears := s.Hear(1); hears == api.OK; _, hears = s.Hear(1) { // the core itself hears nothing
	}
	checkWaits(t, c, "many", 16)
	checkEvents(t, "the store", c.Drain(s), is(api.EvStore, 2, 0, 0))
}

// P13.3: nothing, if the system tells an error: its queue is full, or it has no such core or line.
func TestFlushRefused(t *testing.T) {
	small, e := mesi.New(api.Config{Cores: 3, Lines: 2, Volatile: 1, Sets: 1, Ways: 1, Queue: 1, Store: 1}, nil)
	if e != api.OK {
		t.Fatal(e)
	}
	for op := range flushes {
		full := newSystem(t)
		for range 1000 {
			full.Flush(1, 3, api.Clean)
		}
		other := ofWords(t, 5, 4, code(t, on(op, 0, 0, 128)))
		other.Exec(full)
		for what, x := range map[string]pair{
			"a full queue": {many(t, full, on(op, 0, 0, 128)), full},
			"no such line": {many(t, full, on(op, 0, 0, 128)), small},
			"no such core": {other, full},
		} {
			was, up := look(x.c), asked(x.s, 1)
			for range 3 {
				checkEvents(t, what, x.c.Drain(x.s))
				checkSame(t, x.c, what, was)
			}
			checkAsked(t, x.s, what, up...)
		}
		c := many(t, full, on(op, 0, 0, 128))
		full.Up(1)
		checkEvents(t, "room again", c.Drain(full), is(api.EvSend, 2, 0, 0))
	}
}

// P13.3: of a line that the system has not, a store does not hit, and stays.
func TestStoreOfNoLine(t *testing.T) {
	small, e := mesi.New(api.Config{Cores: 3, Lines: 2, Volatile: 1, Sets: 1, Ways: 1, Queue: 1, Store: 1}, nil)
	if e != api.OK {
		t.Fatal(e)
	}
	c := many(t, newSystem(t), on(api.St, 0, 0, 128))
	for range 3 {
		checkEvents(t, "no such line", c.Drain(small))
		moves(small, c)
	}
	checkBuffer(t, c, "no such line", sbuf.Entry{Kind: api.St, Line: 2})
}

// P13.4: of all messages Done alone is heard, and only while a flush is not answered.
func TestHear(t *testing.T) {
	s := newSystem(t)
	c := sendMany(t, s, 16, api.Clwb)
	was := look(c)
	kinds := []int{math.MinInt, -1 << 32, -242, 256, 270, 1<<32 + 14, math.MaxInt}
	for kind := -20; kind <= 40; kind++ {
		kinds = append(kinds, kind)
	}
	for _, kind := range kinds {
		if kind != 14 {
			checkEvents(t, "no Done", c.Hear(api.Msg{Kind: kind, Line: 1}))
			checkEvents(t, "no Done", c.Hear(api.Msg{Kind: kind, Line: 2, Dirty: true, Kept: true, Data: api.Line{5}}))
			checkSame(t, c, "no Done", was)
		}
	}
	for waits := 16; waits > 0; waits-- {
		was.waits = waits
		checkSame(t, c, "heard", was)
		line := waits * 5 % api.MaxLines
		checkEvents(t, "Done", c.Hear(done(line)), is(api.EvFlush, line, 0, 0))
	}
	was.waits = 0
	for range 3 {
		checkSame(t, c, "all are answered", was)
		checkEvents(t, "none is waited for", c.Hear(done(1)))
	}
}

// P13.4: Done tells its own line, whichever it is.
func TestHearEveryLine(t *testing.T) {
	for id := range 3 {
		s := newSystem(t)
		c := ofWords(t, id, 1, slices.Repeat(code(t, on(api.Opt, 0, 0, 64)), api.MaxLines))
		for line := range api.MaxLines {
			c.Exec(s)
			checkEvents(t, "sent", c.Drain(s), api.Event{Kind: api.EvSend, Core: id, Line: 1})
			checkEvents(t, "Done", c.Hear(done(line)), api.Event{Kind: api.EvFlush, Core: id, Line: line})
			checkWaits(t, c, "Done", 0)
		}
	}
}

// P13.5: what stands in the buffer goes in its order: nothing goes by a first entry that waits.
func TestDrainInOrder(t *testing.T) {
	s := newSystem(t)
	c := many(t, s, li(1, 5), li(2, 7), on(api.St, 1, 0, 64), on(api.St, 2, 0, 128), on(api.Clwb, 0, 0, 128), on(api.St, 2, 0, 64))
	owns(t, s, c, 2, true)
	checkEvents(t, "line 1 is not owned", c.Drain(s))
	moves(s, c)
	checkEvents(t, "the first store", c.Drain(s), is(api.EvStore, 1, 0, 5))
	checkEvents(t, "the second one", c.Drain(s), is(api.EvStore, 2, 0, 7))
	checkEvents(t, "the flush", c.Drain(s), is(api.EvSend, 2, 0, 0))
	checkEvents(t, "the third one", c.Drain(s), is(api.EvStore, 1, 0, 7))
	checkEvents(t, "none", c.Drain(s))
}

// What was flushed and answered outlives the power; what was stored alone does not.
func TestFlushedIsKept(t *testing.T) {
	for op := range flushes {
		s := newSystem(t)
		c := many(t, s, li(1, 5), on(api.St, 1, 0, 64), on(op, 0, 0, 64), on(api.St, 1, 0, 128))
		for range 10 {
			c.Drain(s)
			moves(s, c)
		}
		checkBuffer(t, c, "all is gone")
		s.Fail()
		if l := s.Memory(); l[1][0] != 5 || l[2][0] != 2000 {
			t.Errorf("%d: left is %d and %d", op, l[1][0], l[2][0])
		}
	}
}
