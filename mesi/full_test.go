package mesi_test

import (
	"slices"
	"testing"

	"bellows/api"
	"bellows/mesi"
)

// manyFlushes lets the core's queue up be full of flushes of line 2.
func manyFlushes(t *testing.T, s *mesi.System, core int) {
	t.Helper()
	for range 1000 {
		must(t, "Flush", s.Flush(core, 2, api.Clean))
	}
	checkErr(t, "full", s.Flush(core, 2, api.Clean), api.ErrFull)
}

// P9.6: what an L1 asks fits behind a thousand flushes, and reaches the L2 behind them; flushes have no room till one is gone.
func TestAskBehindFlushes(t *testing.T) {
	for i, x := range []struct {
		want func(s *mesi.System)
		msg  api.Msg
	}{
		{func(s *mesi.System) { s.Load(1, 3, 1) }, ask(api.GetS, 3)},
		{func(s *mesi.System) { s.Store(1, 3, 1, 5) }, ask(api.GetM, 3)},
		{func(s *mesi.System) { s.Reach(1, 3) }, ask(api.GetM, 3)},
		{func(s *mesi.System) { s.Store(1, 5, 1, 5) }, ask(api.GetM, 5)},
		{func(s *mesi.System) { must(t, "Evict", s.Evict(1, 4)) }, dirty(api.Put, 4, put(line(4), 0, 9))},
	} {
		s := newSystem(t, small())
		read(t, s, 0, 5)
		read(t, s, 1, 5)
		write(t, s, 1, 4, 0, 9)
		manyFlushes(t, s, 1)
		x.want(s)
		want := append(slices.Repeat(msgs(ask(api.Clean, 2)), 1000), x.msg)
		for len(want) > 1 {
			checkQueues(t, s, "asked", 1, want, nil, nil)
			if len(want) >= 1000 {
				checkErr(t, "full", s.Flush(1, 2, api.Clean), api.ErrFull)
			}
			must(t, "Up", s.Up(1))
			must(t, "Push", s.Push(2))
			checkHear(t, s, "flushed", 1, ask(api.Done, 2))
			want = want[1:]
		}
		checkQueues(t, s, "asked", 1, want, nil, nil)
		must(t, "Flush", s.Flush(1, 2, api.Wipe))
		checkQueues(t, s, "asked", 1, append(want, ask(api.Wipe, 2)), nil, nil)
		must(t, "Up", s.Up(1))
		moves(t, s)
		for _, slot := range s.Slots(1) {
			if slot.State > api.Mod {
				t.Errorf("want %d: still on its way: %+v", i, slot)
			}
		}
	}
}

// P9.6: more answered flushes than a queue takes fit, and so does what comes behind them; all is heard in its order.
func TestSendBehindDones(t *testing.T) {
	s := newSystem(t, small())
	write(t, s, 1, 3, 0, 9)
	var want []api.Msg
	for n := range 2500 {
		line := []int{2, 4, 5}[n%3]
		must(t, "Flush", s.Flush(1, line, api.Wipe))
		must(t, "Up", s.Up(1))
		must(t, "Push", s.Push(line))
		want = append(want, ask(api.Done, line))
		if n == 1500 { // a question in the midst, that is waited for
			checkStore(t, s, "asked for", 0, 3, 0, 10, false)
			must(t, "Up", s.Up(0))
			want = append(want, ask(api.Invl, 3))
		}
	}
	checkQueues(t, s, "sent", 1, nil, nil, want)
	for i, m := range want {
		checkHear(t, s, "sent", 1, m)
		checkQueues(t, s, "heard", 1, nil, answersTo(want[:i+1]), want[i+1:])
		if t.Failed() {
			t.Fatalf("message %d", i)
		}
	}
	must(t, "Answer", s.Answer(1))
	checkHear(t, s, "answered", 0, data(api.DataM, 3, put(line(3), 0, 9)))
	checkStore(t, s, "answered", 0, 3, 0, 10, true)
	if m, e := s.Hear(1); m != (api.Msg{}) || e != api.ErrNone {
		t.Errorf("behind the last one: %+v, %d", m, e)
	}
}

// answersTo is what core 1 has answered when it has heard these.
func answersTo(heard []api.Msg) []api.Msg {
	if !slices.Contains(heard, ask(api.Invl, 3)) {
		return nil
	}
	return msgs(dirty(api.InvAck, 3, put(line(3), 0, 9)))
}
