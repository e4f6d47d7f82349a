package order_test

import (
	"slices"
	"testing"

	"bellows/api"
	"bellows/order"
)

// story are events that are made such that each is allowed, and the lines behind them, which no bus was asked for.
type story struct {
	c          api.Config
	d          dice
	l          []api.Event
	seen, kept []api.Line
	buffers    [][]api.Event // of each core, its stores and flushes that are not gone
	sent       [][]int       // of each core, the lines of its flushes that were not answered
}

func newStory(c api.Config, img []api.Line, d dice) *story {
	s := &story{c: c, d: d, kept: slices.Clone(img)}
	clear(s.kept[:c.Volatile])
	s.seen = slices.Clone(s.kept)
	s.begin()
	return s
}

func (s *story) begin() {
	s.buffers, s.sent = make([][]api.Event, s.c.Cores), make([][]int, s.c.Cores)
}

// tell makes e the next event.
func (s *story) tell(e api.Event) {
	switch s.l = append(s.l, e); e.Kind {
	case api.EvStore:
		s.seen[e.Line][e.Word] = e.Val
	case api.EvPush:
		if e.Line >= s.c.Volatile {
			s.kept[e.Line] = s.seen[e.Line]
		}
	case api.EvFail:
		s.seen = slices.Clone(s.kept)
		s.begin()
	}
}

// step goes on by some events.
func (s *story) step() {
	id := s.d.roll(s.c.Cores)
	e := api.Event{Core: id, Line: s.d.roll(s.c.Lines), Word: s.d.roll(api.Words), Val: uint64(s.d.roll(1000))}
	switch n := s.d.roll(40); {
	case n < 10:
		e.Kind = api.EvIssue
		s.buffers[id] = append(s.buffers[id], e)
		s.tell(e)
	case n < 14:
		e.Kind = api.EvWant
		s.buffers[id] = append(s.buffers[id], e)
		s.tell(e)
	case n < 28:
		s.drain(id)
	case n < 33:
		e.Kind = api.EvPush
		s.tell(e)
	case n < 35:
		s.answer(id)
	case n < 38:
		s.change(e)
	case n < 39 || s.d.roll(6) > 0:
		e.Kind = api.EvTell
		s.tell(e)
	default:
		s.tell(api.Event{Kind: api.EvFail})
	}
}

// drain lets the first entry of that core's buffer go.
func (s *story) drain(id int) {
	if len(s.buffers[id]) == 0 {
		return
	}
	e := s.buffers[id][0]
	s.buffers[id] = s.buffers[id][1:]
	if e.Kind == api.EvIssue {
		e.Kind = api.EvStore
	} else {
		e.Kind = api.EvSend
		s.sent[id] = append(s.sent[id], e.Line)
	}
	s.tell(e)
}

// answer pushes the line of that core's first flush, and answers it.
func (s *story) answer(id int) {
	if len(s.sent[id]) == 0 {
		return
	}
	line := s.sent[id][0]
	s.sent[id] = s.sent[id][1:]
	s.tell(api.Event{Kind: api.EvPush, Line: line})
	s.tell(api.Event{Kind: api.EvFlush, Core: id, Line: line})
}

// change lets a core that has nothing on its way store by a locked operation.
func (s *story) change(e api.Event) {
	if len(s.buffers[e.Core])+len(s.sent[e.Core]) > 0 {
		return
	}
	old := e
	old.Kind, old.Val = api.EvRmw, s.seen[e.Line][e.Word]
	s.tell(old)
	e.Kind = api.EvStore
	s.tell(e)
}

// P18.1, P18.2: many stories: all their events are allowed, and so are those of each beginning; the lines behind them; and one wrong event behind them is not allowed.
func TestStories(t *testing.T) {
	met := map[int]int{}
	for turn := range 200 {
		c := api.Config{Cores: 1 + turn%8, Lines: 2 + turn%7, Sets: 1, Ways: 1, Queue: 1, Store: 1}
		c.Volatile = 1 + turn%(c.Lines-1)
		img := make([]api.Line, c.Lines)
		for line := range img {
			img[line] = api.Line{uint64(line) + 2000, 3000, 7: uint64(turn)}
		}
		s := newStory(c, img, dice(turn))
		for range 150 {
			s.step()
			checkLines(t, "a story", c, img, s.l, s.seen, s.kept)
			if t.Failed() {
				t.Fatalf("turn %d, behind %+v", turn, s.l)
			}
		}
		for n := range len(s.l) + 1 {
			if at, e := order.Check(c, img, s.l[:n]); at != n || e != api.OK {
				t.Fatalf("turn %d, the first %d of %d events: %d, %d", turn, n, len(s.l), at, e)
			}
		}
		for _, e := range s.l {
			met[e.Kind]++
		}
		s.checkWrong(t, img)
	}
	for _, kind := range []int{api.EvStore, api.EvRmw, api.EvPush, api.EvFlush, api.EvTell, api.EvFail, api.EvIssue, api.EvSend, api.EvWant} {
		if met[kind] < 50 {
			t.Errorf("kind %d: met %d times; want more", kind, met[kind])
		}
	}
}

// checkWrong holds that a wrong event behind the story is not allowed, whatever stands behind that one.
func (s *story) checkWrong(t *testing.T, img []api.Line) {
	t.Helper()
	for line := range s.c.Lines {
		for w, v := range s.seen[line] {
			for _, bad := range []api.Event{
				{Kind: api.EvLoad, Line: line, Word: w, Val: v + 2000},
				{Kind: api.EvOwn, Line: line, Word: w, Val: 5000},
				{Kind: api.EvStore, Line: line, Word: w, Val: 5000},
				{Kind: api.EvRmw, Line: line, Word: w, Val: v + 1},
			} {
				l := slices.Concat(s.l, []api.Event{bad}, s.l)
				if at, e := order.Check(s.c, img, l); at != len(s.l) || e != api.ErrState {
					t.Fatalf("%+v behind %+v: %d, %d; want %d, ErrState", bad, s.l, at, e, len(s.l))
				}
				checkNone(t, "a wrong event", s.c, img, l, api.ErrState)
			}
		}
	}
}
