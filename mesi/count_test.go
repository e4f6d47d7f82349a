package mesi

import (
	"slices"
	"testing"

	"bellows/api"
)

func told(s *System) []uint64 {
	return []uint64{s.steps.asked.Load(), s.steps.answered.Load(), s.steps.heard.Load(), s.steps.pushed.Load(), s.steps.dropped.Load(), s.steps.drained.Load()}
}

// Ways: steps are counted, each kind for itself, and only those that were done.
func TestCounts(t *testing.T) {
	s, _ := New(api.Config{Cores: 2, Lines: 4, Volatile: 1, Sets: 1, Ways: 1, Queue: 1, Store: 1}, nil)
	want := []uint64{0, 0, 0, 0, 0, 0}
	const asked, answered, heard, pushed, dropped, drained = 0, 1, 2, 3, 4, 5
	for i, x := range []struct {
		do   func()
		kind int // -1: nothing is counted
	}{
		{func() {}, -1},
		{func() {
			s.Up(0)
			s.Answer(0)
			s.Hear(0)
			s.Push(3)
			s.Drop(3)
			s.Drain(3)
		}, -1},
		{func() {
			s.Up(2)
			s.Answer(-1)
			s.Hear(2)
			s.Push(4)
			s.Drop(-1)
			s.Drain(4)
		}, -1},
		{func() { s.Store(0, 3, 0, 5) }, -1},
		{func() { s.Up(0) }, asked},
		{func() { s.Hear(0) }, heard},
		{func() { s.Store(0, 3, 0, 5); s.Flush(1, 3, api.Wipe); s.Flush(1, 3, api.Clean) }, -1},
		{func() { s.Up(1) }, asked},
		{func() { s.Up(1) }, -1},
		{func() { s.Hear(0) }, heard},
		{func() { s.Push(3) }, -1},
		{func() { s.Answer(0) }, answered},
		{func() { s.Push(3) }, pushed},
		{func() { s.Drain(3) }, drained},
		{func() { s.Drain(3) }, -1},
		{func() { s.Drop(3) }, dropped},
		{func() { s.Drop(3) }, -1},
	} {
		x.do()
		if x.kind >= 0 {
			want[x.kind]++
		}
		if got := told(s); !slices.Equal(got, want) {
			t.Errorf("step %d: counts %v; want %v", i, got, want)
		}
	}
	var none *System
	none.Up(0)
	none.Drain(0)
}

// P9.2, P9.6: what is asked for has room for a thousand; what is sent fits, and comes in its order, however the queue is filled and emptied.
func TestQueue(t *testing.T) {
	var q queue
	var want []api.Msg
	dice := uint64(1)
	next := func(sides uint64) uint64 {
		dice = dice*6364136223846793005 + 1442695040888963407
		return dice >> 33 % sides
	}
	most, empty := 0, 0
	for n := range 20000 {
		m := api.Msg{Kind: api.DataS, Line: n % api.MaxLines, Data: api.Line{uint64(n)}}
		grows := n%5000 < 1500
		switch {
		case (next(8) == 0) == grows: // a pop: rare where it grows
			got, ok := q.pop()
			if ok != (len(want) > 0) || ok && got != want[0] || !ok && got != (api.Msg{}) {
				t.Fatalf("step %d: popped %+v, %v", n, got, ok)
			}
			if ok {
				want = want[1:]
			}
		case next(2) == 0:
			e := q.ask(m)
			if full := len(want) >= 1000; full && e != api.ErrFull || !full && e != api.OK {
				t.Fatalf("step %d: %d there, asked: %d", n, len(want), e)
			}
			if e == api.OK {
				want = append(want, m)
			}
		default:
			q.send(m, m)
			want = append(want, m, m)
		}
		most = max(most, len(want))
		if len(want) == 0 {
			empty++
		}
		head, ok := q.head()
		if ok != (len(want) > 0) || ok && head != want[0] || n%50 == 0 && !slices.Equal(q.all(), want) {
			t.Fatalf("step %d: head %+v, %v; want %d: %+v", n, head, ok, len(want), want)
		}
	}
	if most < 1200 || empty < 20 {
		t.Errorf("at most %d messages, %d times none; want more", most, empty)
	}
}
