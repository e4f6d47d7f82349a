package mesi_test

import (
	"slices"
	"testing"

	"bellows/api"
	"bellows/array"
	"bellows/dir"
	"bellows/mesi"
)

// P9.2: a flush of each line by each core goes up, behind what is there; of other kinds there is none.
func TestFlush(t *testing.T) {
	for kind := -2; kind <= 17; kind++ {
		s := busy(t)
		want := look(s)
		for core := range 3 {
			for line := range 6 {
				if kind == api.Clean || kind == api.Wipe {
					checkErr(t, "Flush", s.Flush(core, line, kind), api.OK)
					want.up[core] = append(want.up[core], ask(kind, line))
				} else {
					checkErr(t, "Flush of no kind", s.Flush(core, line, kind), api.ErrArg)
				}
			}
		}
		checkSame(t, s, "flushes", want)
	}
	for _, kind := range []int{256 + api.Clean, 1<<32 + api.Wipe, -256 + api.Clean} {
		checkErr(t, "Flush of no kind", newSystem(t, small()).Flush(0, 3, kind), api.ErrArg)
	}
}

// P9.2: a queue takes 1000 flushes; ErrArg is told ahead of ErrFull, and each Up gives room for one more.
func TestFlushFull(t *testing.T) {
	s := newSystem(t, small())
	for n := range 1000 {
		checkErr(t, "room", s.Flush(1, 2+n%2, api.Clean), api.OK)
	}
	was := look(s)
	checkErr(t, "full", s.Flush(1, 3, api.Clean), api.ErrFull)
	checkErr(t, "full", s.Flush(1, 3, api.Wipe), api.ErrFull)
	checkErr(t, "full, no line", s.Flush(1, 6, api.Wipe), api.ErrArg)
	checkErr(t, "full, no kind", s.Flush(1, 3, api.Put), api.ErrArg)
	checkSame(t, s, "full", was)
	checkErr(t, "another core", s.Flush(0, 3, api.Clean), api.OK)
	must(t, "Up", s.Up(1))
	checkErr(t, "room again", s.Flush(1, 3, api.Wipe), api.OK)
	checkErr(t, "full again", s.Flush(1, 3, api.Wipe), api.ErrFull)
	up, _, _ := s.Queues(1)
	if len(up) != 1000 || up[0].Line != 3 || up[999] != ask(api.Wipe, 3) {
		t.Errorf("%d flushes: %+v .. %+v", len(up), up[0], up[len(up)-1])
	}
}

// P9.2: a line is had here by the first request of it, with the words of the memory's queue; it is not Dirty.
func TestHere(t *testing.T) {
	s := newSystem(t, small())
	for _, l := range []int{0, 1, 2, 5} {
		must(t, "Flush", s.Flush(1, l, api.Clean))
		checkEntry(t, s, "not asked yet", l, dir.Entry{Owner: -1})
		must(t, "Up", s.Up(1))
		checkEntry(t, s, "asked", l, dir.Entry{Here: true, Data: line(l), Owner: -1, Busy: api.Clean, By: 1})
	}
	s = newSystem(t, small())
	for v := range uint64(2) { // two entries of the memory's queue: the newest one counts
		write(t, s, 0, 3, 4, 70+v)
		must(t, "Evict", s.Evict(0, 3))
		moves(t, s)
		must(t, "Drop", s.Drop(3))
		checkEntry(t, s, "dropped", 3, dir.Entry{Owner: -1})
		checkWaiting(t, s, "dropped", slices.Repeat([]int{3}, int(v)+1)...)
		read(t, s, 1, 3)
		checkLoad(t, s, "dropped", 1, 3, 4, 70+v, true)
		checkEntry(t, s, "had again", 3, dir.Entry{Here: true, Data: put(line(3), 4, 70+v), Owner: 1})
		checkMemory(t, s, "had again", replaced(3, put(line(3), 4, 70+v)))
		must(t, "Evict", s.Evict(1, 3))
		moves(t, s)
	}
}

// replaced is a small system's memory as it is at first, but for one line.
func replaced(n int, l api.Line) []api.Line {
	img := kept(first(6), 2)
	img[n] = l
	return img
}

// P9.2: Up without a request, and with one of a line that is Busy: nothing changes, whatever stands behind it.
func TestUpErrors(t *testing.T) {
	s := newSystem(t, small())
	was := look(s)
	checkErr(t, "nothing asked", s.Up(0), api.ErrNone)
	checkSame(t, s, "nothing asked", was)
	must(t, "Flush", s.Flush(0, 3, api.Clean))
	must(t, "Up", s.Up(0))
	for core := range 3 {
		must(t, "Flush", s.Flush(core, 3, api.Wipe))
		must(t, "Flush", s.Flush(core, 4, api.Clean))
	}
	was = look(s)
	for core := range 3 {
		checkErr(t, "busy", s.Up(core), api.ErrBusy)
	}
	checkSame(t, s, "busy", was)
	must(t, "Push", s.Push(3))
	checkErr(t, "over", s.Up(2), api.OK)
	checkErr(t, "another line", s.Up(2), api.OK)
	checkErr(t, "busy", s.Up(0), api.ErrBusy)
	checkErr(t, "none left", s.Up(2), api.ErrNone)
}

// P9.2: a write of a line that others read: each of them is told, rising, and only when all have answered the one that writes.
func TestGetM(t *testing.T) {
	s := newSystem(t, small())
	for core := range 3 {
		read(t, s, core, 3)
	}
	checkStore(t, s, "shared", 1, 3, 0, 5, false)
	must(t, "Up", s.Up(1))
	checkEntry(t, s, "asked", 3, dir.Entry{Here: true, Data: line(3), Owner: -1, Share: 7, Busy: api.GetM, By: 1, Wait: 5})
	checkQueues(t, s, "asked", 1, nil, nil, nil)
	for _, core := range []int{2, 0} {
		checkQueues(t, s, "asked", core, nil, nil, msgs(ask(api.Invl, 3)))
		checkErr(t, "not heard yet", s.Answer(core), api.ErrNone)
		checkHear(t, s, "asked", core, ask(api.Invl, 3))
		checkState(t, s, "heard", core, 3, api.Inv)
		checkQueues(t, s, "heard", core, nil, msgs(ask(api.InvAck, 3)), nil)
		checkQueues(t, s, "not all have answered", 1, nil, nil, nil)
		must(t, "Answer", s.Answer(core))
		checkQueues(t, s, "answered", core, nil, nil, nil)
	}
	checkEntry(t, s, "answered", 3, dir.Entry{Here: true, Data: line(3), Owner: 1})
	checkQueues(t, s, "all have answered", 1, nil, nil, msgs(data(api.DataM, 3, line(3))))
	checkStore(t, s, "not heard yet", 1, 3, 0, 5, false)
	checkHear(t, s, "all have answered", 1, data(api.DataM, 3, line(3)))
	checkStore(t, s, "heard", 1, 3, 0, 5, true)
}

// P9.2: Hear without a message, and Answer without an answer.
func TestNoneToHear(t *testing.T) {
	s := busy(t)
	moves(t, s)
	was := look(s)
	for core := range 3 {
		if m, e := s.Hear(core); m != (api.Msg{}) || e != api.ErrNone {
			t.Errorf("Hear(%d): %+v, %d; want ErrNone", core, m, e)
		}
		checkErr(t, "Answer", s.Answer(core), api.ErrNone)
	}
	checkSame(t, s, "nothing to hear", was)
}

// two is a system whose core 0 has lines 3 and 4 written, and was asked for both: the words of 5 in each.
func two(t *testing.T) *mesi.System {
	t.Helper()
	s := newSystem(t, small())
	for _, line := range []int{4, 3} {
		write(t, s, 0, line, 0, 5)
	}
	checkLoad(t, s, "asked for", 1, 4, 0, 0, false)
	must(t, "Up", s.Up(1))
	checkStore(t, s, "asked for", 2, 3, 0, 6, false)
	must(t, "Up", s.Up(2))
	return s
}

// P9.2: what stands in a queue goes one by one, the first one first; what is told, answered and sent comes behind what is there.
func TestInOrder(t *testing.T) {
	s := two(t)
	four, three := put(line(4), 0, 5), put(line(3), 0, 5)
	kept := dirty(api.DnAck, 4, four)
	kept.Kept = true
	gone := dirty(api.InvAck, 3, three)
	checkQueues(t, s, "asked for", 0, nil, nil, msgs(ask(api.Down, 4), ask(api.Invl, 3)))
	checkHear(t, s, "the first", 0, ask(api.Down, 4))
	checkQueues(t, s, "one heard", 0, nil, msgs(kept), msgs(ask(api.Invl, 3)))
	checkHear(t, s, "the second", 0, ask(api.Invl, 3))
	checkQueues(t, s, "both heard", 0, nil, msgs(kept, gone), nil)
	was := s.Entry(3)
	must(t, "Answer", s.Answer(0))
	checkEntry(t, s, "one answered", 4, dir.Entry{Here: true, Dirty: true, Data: four, Owner: -1, Share: 3})
	checkEntry(t, s, "one answered", 3, was)
	checkQueues(t, s, "one answered", 0, nil, msgs(gone), nil)
	checkQueues(t, s, "one answered", 1, nil, nil, msgs(data(api.DataS, 4, four)))
	must(t, "Answer", s.Answer(0))
	checkEntry(t, s, "both answered", 3, dir.Entry{Here: true, Dirty: true, Data: three, Owner: 2})
	checkQueues(t, s, "both answered", 2, nil, nil, msgs(data(api.DataM, 3, three)))
	checkHear(t, s, "read", 1, data(api.DataS, 4, four))
	checkHear(t, s, "written", 2, data(api.DataM, 3, three))
}

// flushed is a small system in which core 1's flush of line 3, that core 0 wrote, is ready.
func flushed(t *testing.T, kind int) *mesi.System {
	t.Helper()
	s := newSystem(t, small())
	write(t, s, 0, 3, 2, 99)
	must(t, "Flush", s.Flush(1, 3, kind))
	moves(t, s)
	return s
}

// P9.3: a flush that is ready: its words go to the memory's queue, and who asked is told Done of the line.
func TestPush(t *testing.T) {
	words := put(line(3), 2, 99)
	for kind, share := range map[int]uint8{api.Clean: 1, api.Wipe: 0} {
		s := flushed(t, kind)
		want := look(s)
		if e := (dir.Entry{Here: true, Dirty: true, Data: words, Owner: -1, Share: share, Busy: kind, By: 1}); want.entries[3] != e {
			t.Fatalf("kind %d: entry %+v; want %+v", kind, want.entries[3], e)
		}
		must(t, "Push", s.Push(3))
		want.entries[3] = dir.Entry{Here: true, Data: words, Owner: -1, Share: share}
		want.down[1] = msgs(ask(api.Done, 3))
		want.waiting = []int{3}
		want.memory[3] = words
		checkSame(t, s, "pushed", want)
		checkErr(t, "again", s.Push(3), api.ErrState)
		checkSame(t, s, "again", want)
		checkHear(t, s, "pushed", 1, ask(api.Done, 3))
		checkState(t, s, "pushed", 1, 3, api.Inv)
	}
}

// P9.3: what is not Dirty is not written, but told; though the memory's queue is full.
func TestPushClean(t *testing.T) {
	for _, kind := range []int{api.Clean, api.Wipe} {
		s := newSystem(t, small())
		fill(t, s)
		for l := range 4 {
			read(t, s, l%3, l)
			must(t, "Flush", s.Flush(2, l, kind))
			moves(t, s)
			was := look(s)
			checkErr(t, "clean", s.Push(l), api.OK)
			if now := look(s); !slices.Equal(now.waiting, was.waiting) || !slices.Equal(now.memory, was.memory) || now.entries[l].Busy != 0 {
				t.Errorf("pushed %d: %+v; was %+v", l, now, was)
			}
			checkQueues(t, s, "clean", 2, nil, nil, msgs(ask(api.Done, l)))
			moves(t, s)
		}
	}
}

// fill fills the memory's queue of a small system by lines 4 and 5, which nobody has then.
func fill(t *testing.T, s *mesi.System) {
	t.Helper()
	for _, line := range []int{4, 5} {
		write(t, s, 0, line, 0, 1)
		must(t, "Evict", s.Evict(0, line))
		moves(t, s)
		must(t, "Drop", s.Drop(line))
	}
	checkWaiting(t, s, "filled", 4, 5)
}

// P9.3: a memory's queue that is full: nothing changes, till there is room.
func TestFull(t *testing.T) {
	s := flushed(t, api.Wipe)
	fill(t, s)
	was := look(s)
	checkErr(t, "Push", s.Push(3), api.ErrFull)
	checkErr(t, "Push of what is not ready", s.Push(2), api.ErrState)
	checkSame(t, s, "full", was)
	must(t, "Drain", s.Drain(4))
	must(t, "Push", s.Push(3))
	checkWaiting(t, s, "pushed", 5, 3)
	write(t, s, 2, 2, 0, 6)
	must(t, "Evict", s.Evict(2, 2))
	moves(t, s)
	was = look(s)
	checkErr(t, "Drop", s.Drop(2), api.ErrFull)
	checkSame(t, s, "full again", was)
	checkErr(t, "Drop of what is not Dirty", s.Drop(3), api.OK)
	must(t, "Drain", s.Drain(5))
	must(t, "Drop", s.Drop(2))
	checkWaiting(t, s, "dropped", 3, 2)
	checkEntry(t, s, "dropped", 2, dir.Entry{Owner: -1})
	checkMemory(t, s, "dropped", []api.Line{{}, {}, put(line(2), 0, 6), put(line(3), 2, 99), put(line(4), 0, 1), put(line(5), 0, 1)})
}

// P9.3: what is not ready is not pushed: not here, nothing on its way, no flush, not answered yet.
func TestPushErrState(t *testing.T) {
	s := newSystem(t, small())
	write(t, s, 0, 3, 0, 5)
	write(t, s, 0, 4, 0, 5)
	read(t, s, 1, 2)
	read(t, s, 2, 2)
	must(t, "Flush", s.Flush(1, 3, api.Clean)) // core 0 has not answered
	must(t, "Flush", s.Flush(1, 2, api.Wipe))  // nor have core 1 and core 2
	must(t, "Up", s.Up(1))
	must(t, "Up", s.Up(1))
	checkLoad(t, s, "asked for", 2, 4, 0, 0, false) // a GetS on its way
	must(t, "Up", s.Up(2))
	was := look(s)
	for line := range 6 {
		checkErr(t, "not ready", s.Push(line), api.ErrState)
	}
	checkSame(t, s, "not ready", was)
	checkHear(t, s, "asked for", 1, ask(api.Invl, 2))
	must(t, "Answer", s.Answer(1))
	checkErr(t, "one answer of two", s.Push(2), api.ErrState)
	checkHear(t, s, "asked for", 2, ask(api.Invl, 2))
	must(t, "Answer", s.Answer(2))
	checkErr(t, "answered", s.Push(2), api.OK)
}

// P9.3: a line that is not here, that a core has, or that is on its way is not dropped.
func TestDropErrState(t *testing.T) {
	s := newSystem(t, small())
	write(t, s, 0, 2, 0, 5) // an Owner
	read(t, s, 0, 3)
	read(t, s, 1, 3) // readers
	must(t, "Flush", s.Flush(1, 4, api.Clean))
	must(t, "Up", s.Up(1)) // a flush that is ready
	read(t, s, 2, 5)
	must(t, "Evict", s.Evict(2, 5)) // a Put that is on its way
	was := look(s)
	for line := range 6 {
		checkErr(t, "had, or not here", s.Drop(line), api.ErrState)
	}
	checkSame(t, s, "not dropped", was)
	must(t, "Push", s.Push(4))
	checkErr(t, "pushed", s.Drop(4), api.OK)
	must(t, "Up", s.Up(2))
	checkErr(t, "put out", s.Drop(5), api.OK)
	for line := 4; line <= 5; line++ {
		checkErr(t, "dropped", s.Drop(line), api.ErrState)
		checkEntry(t, s, "dropped", line, dir.Entry{Owner: -1})
	}
	checkWaiting(t, s, "nothing was Dirty")
	checkMemory(t, s, "nothing was Dirty", kept(first(6), 2))
}

// P9.3: each Drain writes one entry of the line, the eldest one; of lines without one ErrNone is told.
func TestDrain(t *testing.T) {
	c := small()
	c.Queue = 4
	s := newSystem(t, c)
	for v, line := range []int{3, 4, 3, 0} {
		write(t, s, 0, line, 1, uint64(v+1))
		must(t, "Flush", s.Flush(0, line, api.Wipe))
		moves(t, s)
		must(t, "Push", s.Push(line))
	}
	moves(t, s)
	checkWaiting(t, s, "pushed", 3, 4, 3, 0)
	was := look(s)
	for _, line := range []int{1, 2, 5} {
		checkErr(t, "no entry", s.Drain(line), api.ErrNone)
	}
	checkSame(t, s, "no entry", was)
	for i, x := range []struct {
		line int
		left []int
	}{{3, []int{4, 3, 0}}, {0, []int{4, 3}}, {3, []int{4}}, {4, nil}} {
		checkErr(t, "an entry", s.Drain(x.line), api.OK)
		was.waiting = x.left
		checkSame(t, s, "drained", was)
		if t.Failed() {
			t.Fatalf("drain %d", i)
		}
	}
	checkErr(t, "none left", s.Drain(3), api.ErrNone)
}

// P9.4: behind a failure the memory has what its queue had, but for the lines that forget; all else is as at first, and goes on as at first.
func TestFail(t *testing.T) {
	s := newSystem(t, small())
	for i, line := range []int{0, 2} {
		write(t, s, 0, line, 0, []uint64{7, 5}[i])
		must(t, "Flush", s.Flush(0, line, api.Clean))
		moves(t, s)
		must(t, "Push", s.Push(line))
	}
	write(t, s, 1, 5, 1, 8) // not flushed
	write(t, s, 2, 1, 1, 8)
	for core := range 2 { // an answer, and a message that is not heard
		checkLoad(t, s, "asked for", core, []int{5, 1}[core], 1, 0, false)
		must(t, "Up", s.Up(core))
	}
	checkHear(t, s, "asked for", 1, ask(api.Down, 5))
	must(t, "Evict", s.Evict(2, 1))
	for n := range 1003 { // more than the queue takes
		s.Flush(2, 2+n%3, api.Clean)
	}
	want := s.Memory()
	if want[0][0] != 7 || want[2][0] != 5 || want[5] != line(5) {
		t.Fatalf("memory %v", want)
	}
	want[0], want[1] = api.Line{}, api.Line{}
	for range 2 {
		s.Fail()
		checkEmpty(t, s, small(), want)
	}
	read(t, s, 0, 2)
	checkLoad(t, s, "behind a failure", 0, 2, 0, 5, true)
	if got, want := s.Slots(0), (array.Slot{State: api.Exc, Line: 2, Data: want[2], Used: 4}); !slices.Equal(got, []array.Slot{want}) {
		t.Errorf("slots %+v; want %+v", got, want) // asked for, told, read two times
	}
	for core := range 3 {
		for n := range 1000 {
			must(t, "Flush", s.Flush(core, n%6, api.Wipe))
		}
	}
}

// P9.4: a failure loses what stands in the caches and in messages, whatever the way there; what was pushed stays.
func TestFailLoses(t *testing.T) {
	for _, way := range []func(s *mesi.System){
		func(s *mesi.System) {},
		func(s *mesi.System) { must(t, "Evict", s.Evict(0, 3)) },
		func(s *mesi.System) { must(t, "Evict", s.Evict(0, 3)); moves(t, s) },
		func(s *mesi.System) { read(t, s, 1, 3) },
		func(s *mesi.System) { must(t, "Flush", s.Flush(1, 3, api.Clean)); moves(t, s) },
	} {
		s := newSystem(t, small())
		write(t, s, 0, 3, 2, 99)
		way(s)
		checkMemory(t, s, "not pushed", kept(first(6), 2))
		s.Fail()
		checkMemory(t, s, "not pushed", kept(first(6), 2))
	}
	for _, drained := range []bool{false, true} {
		s := flushed(t, api.Clean)
		must(t, "Push", s.Push(3))
		if drained {
			must(t, "Drain", s.Drain(3))
		}
		write(t, s, 0, 3, 2, 100)
		s.Fail()
		checkMemory(t, s, "pushed", replaced(3, put(line(3), 2, 99)))
	}
}
