package bus_test

import (
	"testing"

	"bellows/api"
	"bellows/bus"
)

// dice is a row of numbers that looks like none, and is always the same.
type dice uint64

// roll is a number from 0 to sides - 1.
func (d *dice) roll(sides int) int {
	*d = *d*6364136223846793005 + 1442695040888963407
	return int(uint64(*d) >> 33 % uint64(sides))
}

// walker does events on a bus and on a plain one.
type walker struct {
	t       *testing.T
	d       dice
	b       *bus.Bus
	p       plain
	met     map[int]int // of each kind, how many were allowed
	refused map[int]int
	next    uint64          // the next store's value; 0: of a few values any
	ranks   map[uint64]int  // which store that all saw had the value
	wanted  map[int][]ahead // of each core and line, its flushes that were not answered
	held    int             // so many words were held against what stood ahead
}

// ahead are the values of the last stores of each word that stood ahead of a flush.
type ahead map[int]uint64

func newWalker(t *testing.T, c api.Config, d dice, unique bool) *walker {
	t.Helper()
	w := &walker{t: t, d: d, met: map[int]int{}, refused: map[int]int{}, ranks: map[uint64]int{}, wanted: map[int][]ahead{}}
	img := image(c.Lines)
	for line := range img {
		for n := range img[line] {
			img[line][n] %= 2
		}
	}
	if unique {
		w.next = 10
	}
	w.b = busOf(t, c, img)
	w.p = plain{c: c, start: w.b.Lines()}
	return w
}

// val is a value that a new store has.
func (w *walker) val() uint64 {
	if w.next == 0 {
		return uint64(w.d.roll(3))
	}
	w.next++
	return w.next
}

// kind is that of an event, or none; ends and failures are rare.
func (w *walker) kind() int {
	kind := w.d.roll(15)
	if kind >= api.EvHalt && kind <= api.EvFail && w.d.roll(20) > 0 {
		return []int{api.EvPush, api.EvIssue, api.EvWant, api.EvFlush}[w.d.roll(4)]
	}
	return kind
}

// any is an event that may be allowed or not.
func (w *walker) any() api.Event {
	c := w.p.c
	e := api.Event{Kind: w.kind(), Core: w.d.roll(c.Cores + 1), Line: w.d.roll(c.Lines + 1), Word: w.d.roll(3), Val: uint64(w.d.roll(3))}
	if w.d.roll(20) == 0 {
		*[]*int{&e.Kind, &e.Core, &e.Line, &e.Word}[w.d.roll(4)] = far[w.d.roll(len(far))]
	}
	return e
}

// likely is an event that is most often allowed.
func (w *walker) likely() api.Event {
	c := w.p.c
	e := api.Event{Kind: w.kind(), Core: w.d.roll(c.Cores), Line: w.d.roll(c.Lines), Word: w.d.roll(3)}
	buffer := w.p.buffer(e.Core)
	if len(buffer) > 8 && (e.Kind == api.EvIssue || e.Kind == api.EvWant) {
		e.Kind = api.EvStore
	}
	switch e.Kind {
	case api.EvLoad, api.EvRmw:
		e.Val = w.p.lines()[e.Line][e.Word]
	case api.EvIssue, api.EvTell:
		e.Val = w.val()
	case api.EvWant:
		if len(buffer) > 0 {
			e.Line = buffer[w.d.roll(len(buffer))].Line
		}
	case api.EvPush:
		if open := w.p.open(e.Core, -1); len(open) > 0 {
			e.Line = w.p.life[open[0]].Line
		}
	case api.EvOwn:
		for _, x := range buffer {
			if x.Kind == api.EvIssue {
				e.Line, e.Word = x.Line, x.Word
			}
		}
		e.Val, _ = w.p.ownStore(e)
	case api.EvStore, api.EvSend:
		if len(buffer) > 0 {
			e = buffer[0]
			e.Kind = map[int]int{api.EvIssue: api.EvStore, api.EvWant: api.EvSend}[e.Kind]
		} else if last := w.p.last(e.Core); last.Kind == api.EvRmw {
			e = last
			e.Kind, e.Val = api.EvStore, w.val()
		}
	case api.EvFlush:
		if open := w.p.open(e.Core, -1); len(open) > 0 {
			e.Line = w.p.life[open[0]].Line
		}
	}
	return e
}

// step does an event on both.
func (w *walker) step() {
	e := w.likely()
	if w.d.roll(3) == 0 {
		e = w.any()
	}
	if w.next > 0 && e.Kind == api.EvIssue {
		e.Val = w.val()
	}
	if w.next > 0 && e.Kind == api.EvStore && w.p.last(e.Core).Kind == api.EvRmw && len(w.p.buffer(e.Core)) == 0 {
		e.Val = w.val()
	}
	buffer := w.p.buffer(e.Core)
	got, want := w.b.Do(e), w.p.do(e)
	if got != want {
		w.t.Errorf("%+v: %v; want %v", e, got, want)
	}
	if now, want := look(w.b), w.p.look(); !now.same(want) {
		w.t.Errorf("behind %+v: %+v; want %+v", e, now, want)
	}
	if !got {
		w.refused[e.Kind]++
		return
	}
	w.met[e.Kind]++
	if w.next > 0 {
		w.follow(e, buffer)
	}
}

// follow holds P14.3: behind an answered flush the line's kept words are those of the stores that stood ahead of it, or later ones.
func (w *walker) follow(e api.Event, buffer []api.Event) {
	at := e.Core*api.MaxLines + e.Line
	switch e.Kind {
	case api.EvStore:
		w.ranks[e.Val] = len(w.ranks) + 1
	case api.EvFail:
		clear(w.wanted)
	case api.EvWant:
		x := ahead{}
		for _, s := range buffer {
			if s.Kind == api.EvIssue && s.Line == e.Line {
				x[s.Word] = s.Val
			}
		}
		w.wanted[at] = append(w.wanted[at], x)
	case api.EvFlush:
		if e.Line >= w.p.c.Volatile {
			for n, v := range w.wanted[at][0] {
				w.held++
				if now := w.b.Kept()[e.Line][n]; w.ranks[v] == 0 || w.ranks[now] < w.ranks[v] {
					w.t.Errorf("%+v: kept is %d, store number %d; ahead was %d, number %d", e, now, w.ranks[now], v, w.ranks[v])
				}
			}
		}
		w.wanted[at] = w.wanted[at][1:]
	}
}

// P14.1 to P14.3: walks of several shapes, beside plain buses: all that is allowed, and all that is told.
func TestWalks(t *testing.T) {
	met, refused, held := map[int]int{}, map[int]int{}, 0
	for n, c := range []api.Config{
		{Cores: 1, Lines: 2, Volatile: 1, Sets: 1, Ways: 1, Queue: 1, Store: 1},
		{Cores: 2, Lines: 2, Volatile: 1, Sets: 1, Ways: 1, Queue: 1, Store: 2},
		{Cores: 3, Lines: 4, Volatile: 2, Sets: 2, Ways: 2, Queue: 2, Store: 4},
		{Cores: 8, Lines: 3, Volatile: 1, Sets: 1, Ways: 8, Queue: 3, Store: 8},
	} {
		for turn := range 60 {
			w := newWalker(t, c, dice(1000*n+turn), turn%2 == 0)
			for step := range 500 {
				w.step()
				if t.Failed() {
					t.Fatalf("shape %d, turn %d, step %d", n, turn, step)
				}
			}
			held += w.held
			for kind := range 15 {
				met[kind] += w.met[kind]
				refused[kind] += w.refused[kind]
			}
		}
	}
	if held < 200 {
		t.Errorf("P14.3 was held of %d words; want more", held)
	}
	for kind := api.EvLoad; kind <= api.EvWant; kind++ {
		if met[kind] < 50 || refused[kind] < 50 && kind != api.EvFail {
			t.Errorf("kind %d: allowed %d times, refused %d times; want more", kind, met[kind], refused[kind])
		}
	}
}
