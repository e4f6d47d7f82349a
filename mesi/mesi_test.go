package mesi_test

import (
	"math"
	"slices"
	"testing"

	"bellows/api"
	"bellows/array"
	"bellows/dir"
	"bellows/mesi"
)

// The chapter's example.
func TestExample(t *testing.T) {
	s := newSystem(t, small())
	checkStore(t, s, "new", 0, 3, 1, 5, false)
	checkQueues(t, s, "asked", 0, msgs(ask(api.GetM, 3)), nil, nil)
	must(t, "Up", s.Up(0))
	checkHear(t, s, "told", 0, data(api.DataM, 3, line(3)))
	checkStore(t, s, "heard", 0, 3, 1, 5, true)
	checkLoad(t, s, "stored", 0, 3, 1, 5, true)
}

// shapes are all shapes that differ from a good one in one field, good or not.
func shapes() []api.Config {
	var l []api.Config
	for _, n := range []int{math.MinInt, -1 << 32, -1, 0, 1, 2, 3, 4, 5, 6, 7, 8, 9, 16, 17, 63, 64, 65, 257, 1<<32 + 1, math.MaxInt} {
		for field := range 7 {
			c := small()
			*[]*int{&c.Cores, &c.Lines, &c.Volatile, &c.Sets, &c.Ways, &c.Queue, &c.Store}[field] = n
			l = append(l, c)
		}
	}
	return append(l, api.Config{})
}

// good tells whether c is a shape that there may be, as the first layer's chapter says it.
func good(c api.Config) bool {
	return c.Cores >= 1 && c.Cores <= 8 && c.Lines >= 2 && c.Lines <= 64 && c.Volatile >= 1 && c.Volatile < c.Lines &&
		slices.Contains([]int{1, 2, 4, 8}, c.Sets) && c.Ways >= 1 && c.Ways <= 8 && c.Queue >= 1 && c.Queue <= 16 && c.Store >= 1 && c.Store <= 16
}

// P9.1: every field's edges: a shape that is none is ErrArg; else all is empty, but the memory.
func TestNewEveryShape(t *testing.T) {
	for _, c := range shapes() {
		lines := max(0, min(c.Lines, 100))
		for _, img := range [][]api.Line{nil, {}, first(lines)} {
			s, e := mesi.New(c, img)
			if !good(c) {
				if s != nil || e != api.ErrArg {
					t.Errorf("New(%+v): %v, %d; want nil, ErrArg", c, s, e)
				}
				continue
			}
			if s == nil || e != api.OK {
				t.Fatalf("New(%+v): %v, %d; want a system", c, s, e)
			}
			want := make([]api.Line, lines)
			if len(img) > 0 {
				want = kept(img, c.Volatile)
			}
			checkEmpty(t, s, c, want)
		}
	}
}

// checkEmpty holds that s has that shape, that its memory has img, and that all else is empty.
func checkEmpty(t *testing.T, s *mesi.System, c api.Config, img []api.Line) {
	t.Helper()
	if got := s.Config(); got != c {
		t.Errorf("Config %+v; want %+v", got, c)
	}
	checkMemory(t, s, "empty", img)
	checkWaiting(t, s, "empty")
	for line := range c.Lines {
		checkEntry(t, s, "empty", line, dir.Entry{Owner: -1})
	}
	for core := range c.Cores {
		checkQueues(t, s, "empty", core, nil, nil, nil)
		if got := s.Slots(core); len(got) != 0 {
			t.Errorf("slots of %d: %+v; want none", core, got)
		}
	}
}

// P9.1: an image has as many lines as the shape, or none; volatile lines are 0, however many there are.
func TestNewImage(t *testing.T) {
	for n := range 70 {
		s, e := mesi.New(small(), first(n))
		if n == 0 || n == 6 {
			must(t, "New", e)
		} else if s != nil || e != api.ErrArg {
			t.Errorf("New with %d lines: %v, %d; want nil, ErrArg", n, s, e)
		}
	}
	c := small()
	for c.Volatile = 1; c.Volatile < c.Lines; c.Volatile++ {
		checkMemory(t, newSystem(t, c), "new", kept(first(c.Lines), c.Volatile))
	}
}

// P9.1: the image that is handed in is not changed, and not kept.
func TestNewKeepsNoImage(t *testing.T) {
	img := append(first(6), api.Line{9})[:6]
	s, e := mesi.New(small(), img)
	must(t, "New", e)
	if !slices.Equal(img[:7], append(first(6), api.Line{9})) {
		t.Errorf("the image was changed: %v", img[:7])
	}
	clear(img)
	checkMemory(t, s, "behind a changed image", kept(first(6), 2))
	write(t, s, 0, 3, 0, 5)
	must(t, "Flush", s.Flush(0, 3, api.Wipe))
	moves(t, s)
	must(t, "Push", s.Push(3))
	must(t, "Drain", s.Drain(3))
	if img[3] != (api.Line{}) {
		t.Errorf("the image was written: %v", img[3])
	}
}

// P9.1: what is told of nil.
func TestNil(t *testing.T) {
	var s *mesi.System
	s.Fail()
	for _, line := range append([]int{0, 3}, noLines...) {
		for _, core := range append([]int{0, 1}, noCores...) {
			checkLoad(t, s, "nil", core, line, 0, 0, false)
			checkStore(t, s, "nil", core, line, 0, 5, false)
			checkErr(t, "Flush of nil", s.Flush(core, line, api.Clean), api.ErrArg)
			checkErr(t, "Up of nil", s.Up(core), api.ErrArg)
			checkErr(t, "Answer of nil", s.Answer(core), api.ErrArg)
			checkErr(t, "Evict of nil", s.Evict(core, line), api.ErrArg)
			checkQueues(t, s, "nil", core, nil, nil, nil)
			if s.Reach(core, line) || len(s.Slots(core)) != 0 {
				t.Errorf("nil: Reach or Slots of %d", core)
			}
			if m, e := s.Hear(core); m != (api.Msg{}) || e != api.ErrArg {
				t.Errorf("nil: Hear: %+v, %d", m, e)
			}
		}
		checkErr(t, "Push of nil", s.Push(line), api.ErrArg)
		checkErr(t, "Drop of nil", s.Drop(line), api.ErrArg)
		checkErr(t, "Drain of nil", s.Drain(line), api.ErrArg)
		checkEntry(t, s, "nil", line, dir.Entry{Owner: -1})
	}
	if len(s.Waiting()) != 0 || len(s.Memory()) != 0 || s.Config() != (api.Config{}) {
		t.Error("nil: Waiting, Memory or Config")
	}
}

// busy is a small system in the midst: lines in several states, and messages in each queue of each kind.
func busy(t *testing.T) *mesi.System {
	t.Helper()
	s := newSystem(t, small())
	write(t, s, 0, 3, 0, 5)
	write(t, s, 0, 2, 0, 5)
	must(t, "Flush", s.Flush(0, 2, api.Clean))
	moves(t, s)
	must(t, "Push", s.Push(2))
	write(t, s, 0, 4, 0, 6)
	must(t, "Flush", s.Flush(2, 4, api.Wipe))
	moves(t, s)
	read(t, s, 1, 5)
	checkLoad(t, s, "asked for", 1, 3, 0, 0, false)
	must(t, "Up", s.Up(1))
	checkHear(t, s, "asked for", 0, ask(api.Down, 3))
	must(t, "Flush", s.Flush(2, 5, api.Clean))
	must(t, "Flush", s.Flush(2, 3, api.Clean))
	must(t, "Up", s.Up(2))
	v := look(s)
	if len(v.up[2]) == 0 || len(v.answers[0]) == 0 || len(v.down[1]) == 0 || len(v.waiting) == 0 || len(v.slots[0]) == 0 || !dir.Ready(v.entries[4]) {
		t.Fatalf("not as busy as it should be: %+v", v)
	}
	return s
}

// P9.1 to P9.4: cores that there are not, those of greater systems too, do nothing.
func TestWrongCores(t *testing.T) {
	s := busy(t)
	was := look(s)
	for _, core := range append([]int{3, 4, 7}, noCores...) {
		for line := range 6 {
			checkLoad(t, s, "no core", core, line, 0, 0, false)
			checkStore(t, s, "no core", core, line, 0, 5, false)
			checkErr(t, "Evict", s.Evict(core, line), api.ErrArg)
			checkErr(t, "Flush", s.Flush(core, line, api.Clean), api.ErrArg)
			if s.Reach(core, line) {
				t.Errorf("Reach(%d, %d)", core, line)
			}
		}
		checkErr(t, "Up", s.Up(core), api.ErrArg)
		checkErr(t, "Answer", s.Answer(core), api.ErrArg)
		if m, e := s.Hear(core); m != (api.Msg{}) || e != api.ErrArg {
			t.Errorf("Hear(%d): %+v, %d", core, m, e)
		}
		checkQueues(t, s, "no core", core, nil, nil, nil)
		if got := s.Slots(core); len(got) != 0 {
			t.Errorf("slots of %d: %+v", core, got)
		}
	}
	checkSame(t, s, "no core", was)
}

// P9.1 to P9.4: lines that there are not, those of greater systems too, and words that there are not.
func TestWrongLinesAndWords(t *testing.T) {
	s := busy(t)
	was := look(s)
	for _, line := range append([]int{6, 7, 11, 63}, noLines...) {
		for core := range 3 {
			checkLoad(t, s, "no line", core, line, 0, 0, false)
			checkStore(t, s, "no line", core, line, 0, 5, false)
			checkErr(t, "Evict", s.Evict(core, line), api.ErrArg)
			checkErr(t, "Flush", s.Flush(core, line, api.Wipe), api.ErrArg)
			if s.Reach(core, line) {
				t.Errorf("Reach(%d, %d)", core, line)
			}
		}
		checkErr(t, "Push", s.Push(line), api.ErrArg)
		checkErr(t, "Drop", s.Drop(line), api.ErrArg)
		checkErr(t, "Drain", s.Drain(line), api.ErrArg)
		checkEntry(t, s, "no line", line, dir.Entry{Owner: -1})
	}
	for _, word := range noWords {
		for line := range 6 {
			checkLoad(t, s, "no word", 0, line, word, 0, false)
			checkStore(t, s, "no word", 0, line, word, 5, false)
		}
	}
	checkSame(t, s, "no line, no word", was)
}

// P9.1: what an L1 asks goes up behind what is there, and to no other core's queue.
func TestAsksGoUp(t *testing.T) {
	for core := range 3 {
		for i, x := range []struct {
			want func(s *mesi.System) bool
			msg  api.Msg
		}{
			{func(s *mesi.System) bool { _, hit := s.Load(core, 3, 1); return hit }, ask(api.GetS, 3)},
			{func(s *mesi.System) bool { return s.Store(core, 3, 1, 5) }, ask(api.GetM, 3)},
			{func(s *mesi.System) bool { return s.Reach(core, 3) }, ask(api.GetM, 3)},
		} {
			s := newSystem(t, small())
			must(t, "Flush", s.Flush(core, 4, api.Wipe))
			want := look(s)
			for range 2 { // it is asked once, however often it is wanted
				if x.want(s) {
					t.Errorf("way %d: a hit", i)
				}
			}
			want.up[core] = append(want.up[core], x.msg)
			want.slots[core] = []array.Slot{{State: map[int]int{api.GetS: api.ToS, api.GetM: api.ToM}[x.msg.Kind], Line: 3, Used: 1}}
			checkSame(t, s, "asked", want)
		}
	}
}

// P9.1: an L1 that has no room puts its eldest line out, by whatever is wanted; Evict the one that is named.
func TestPutsGoUp(t *testing.T) {
	for i, want := range []func(s *mesi.System){
		func(s *mesi.System) { s.Load(1, 5, 0) },
		func(s *mesi.System) { s.Store(1, 5, 0, 1) },
		func(s *mesi.System) { s.Reach(1, 5) },
		func(s *mesi.System) { must(t, "Evict", s.Evict(1, 3)) },
	} {
		c := small()
		c.Ways = 2
		s := newSystem(t, c)
		write(t, s, 1, 3, 7, 8)
		read(t, s, 1, 4)
		want(s)
		checkQueues(t, s, "no room", 1, msgs(dirty(api.Put, 3, put(line(3), 7, 8))), nil, nil)
		checkState(t, s, "no room", 1, 3, api.Dirty)
		must(t, "Up", s.Up(1))
		checkEntry(t, s, "put out", 3, dir.Entry{Here: true, Dirty: true, Data: put(line(3), 7, 8), Owner: -1})
		checkHear(t, s, "put out", 1, ask(api.PutAck, 3))
		checkState(t, s, "put out", 1, 3, api.Inv)
		if t.Failed() {
			t.Fatalf("way %d", i)
		}
	}
}

// P9.1: Reach tells whether the line is owned; of one that is nothing is asked, and its number of use stays.
func TestReach(t *testing.T) {
	s := newSystem(t, small())
	if s.Reach(0, 3) {
		t.Error("not there, and owned")
	}
	moves(t, s)
	for range 2 { // Exc, Mod
		was := look(s)
		if !s.Reach(0, 3) {
			t.Error("not owned")
		}
		checkSame(t, s, "reached", was)
		checkStore(t, s, "owned", 0, 3, 1, 5, true)
	}
	read(t, s, 1, 3)
	if s.Reach(0, 3) || s.Reach(1, 3) {
		t.Error("shared, and owned")
	}
	for core := range 2 {
		checkQueues(t, s, "shared", core, msgs(ask(api.GetM, 3)), nil, nil)
		checkState(t, s, "shared", core, 3, api.Up)
		checkLoad(t, s, "asked for", core, 3, 1, 5, true)
	}
}

// P9.1: Evict tells what the agent does.
func TestEvict(t *testing.T) {
	s := newSystem(t, small())
	checkErr(t, "not there", s.Evict(0, 3), api.ErrNone)
	read(t, s, 0, 3)
	read(t, s, 0, 4)
	checkErr(t, "of another core", s.Evict(1, 3), api.ErrNone)
	checkErr(t, "there", s.Evict(0, 3), api.OK)
	was := look(s)
	checkErr(t, "on its way", s.Evict(0, 3), api.ErrBusy)
	checkErr(t, "beside one on its way", s.Evict(0, 4), api.ErrBusy)
	checkErr(t, "no line, and one on its way", s.Evict(0, 6), api.ErrArg)
	checkSame(t, s, "in vain", was)
	checkQueues(t, s, "put out", 0, msgs(ask(api.Put, 3)), nil, nil)
}

// P9.4: what is told is new memory, its spare room too.
func TestAnswersShareNothing(t *testing.T) {
	s := busy(t)
	must(t, "Flush", s.Flush(0, 3, api.Clean))
	one, two, was := look(s), look(s), look(s)
	spoil(one.slots)
	spoil(one.up)
	spoil(one.answers)
	spoil(one.down)
	spoil([][]int{one.waiting})
	spoil([][]api.Line{one.memory})
	checkSame(t, s, "behind changed answers", was)
	if !same(two, was) {
		t.Errorf("two answers share memory: %+v; want %+v", two, was)
	}
}

// spoil makes all of the lists and of their spare room zero.
func spoil[T any](lists [][]T) {
	for _, l := range lists {
		clear(l[:cap(l)])
	}
}
