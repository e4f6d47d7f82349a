package order_test

import (
	"math"
	"slices"
	"testing"

	"bellows/api"
	"bellows/bus"
	"bellows/order"
)

// shape is that of these tests: of four lines one forgets.
var shape = api.Config{Cores: 2, Lines: 4, Volatile: 1, Sets: 1, Ways: 2, Queue: 2, Store: 2}

func image() []api.Line { return []api.Line{{1, 2}, {10, 11}, {20, 21}, {30, 31}} }

// of is an event of core 1.
func of(kind, line, w int, v uint64) api.Event {
	return api.Event{Kind: kind, Core: 1, Line: line, Word: w, Val: v}
}

// allowed are events of every kind, each of which is allowed behind the ones ahead of it.
func allowed() []api.Event {
	return []api.Event{
		of(api.EvLoad, 1, 1, 11), of(api.EvLoad, 0, 1, 0), of(api.EvIssue, 1, 1, 5), of(api.EvOwn, 1, 1, 5), {Kind: api.EvLoad, Line: 1, Word: 1, Val: 11},
		of(api.EvWant, 1, 0, 0), of(api.EvStore, 1, 1, 5), {Kind: api.EvLoad, Line: 1, Word: 1, Val: 5}, of(api.EvSend, 1, 0, 0), of(api.EvPush, 1, 0, 0),
		of(api.EvFlush, 1, 0, 0), of(api.EvFence, 0, 0, 0), of(api.EvRmw, 2, 0, 20), of(api.EvStore, 2, 0, 22), of(api.EvTell, 0, 0, 9),
		of(api.EvHalt, 0, 0, 0), {Kind: api.EvTrap}, of(api.EvFail, 0, 0, 0), of(api.EvLoad, 1, 1, 5), of(api.EvLoad, 2, 0, 20),
	}
}

// checkAt holds what Check tells of the events, of shape and image.
func checkAt(t *testing.T, what string, l []api.Event, at int, want api.Errno) {
	t.Helper()
	if got, e := order.Check(shape, image(), l); got != at || e != want {
		t.Errorf("%s: %d, %d; want %d, %d", what, got, e, at, want)
	}
}

// P18.1: the chapter's example: of none there are none.
func TestCheckNone(t *testing.T) {
	checkAt(t, "nil", nil, 0, api.OK)
	checkAt(t, "empty", []api.Event{}, 0, api.OK)
}

// P18.1, P18.2: events that are all allowed, and each beginning of them: so many.
func TestCheckAllowed(t *testing.T) {
	l := allowed()
	for n := range len(l) + 1 {
		checkAt(t, "a beginning", l[:n], n, api.OK)
	}
}

// P18.1: the place of the first one that is not allowed, whatever stands behind it.
func TestCheckNotAllowed(t *testing.T) {
	l := allowed()
	for n := range len(l) + 1 {
		for _, bad := range []api.Event{{}, {Kind: 15}, {Kind: math.MinInt}, of(api.EvLoad, 3, 1, 32), of(api.EvLoad, 4, 0, 0), of(api.EvStore, 3, 1, 31), {Kind: api.EvTell, Core: 2}, {Kind: api.EvTell, Core: -1}} {
			checkAt(t, "one", slices.Insert(slices.Clone(l), n, bad), n, api.ErrState)
			checkAt(t, "two", append(slices.Insert(slices.Clone(l), n, bad), bad), n, api.ErrState)
			checkAt(t, "many", append(slices.Clone(l[:n]), bad, bad, bad), n, api.ErrState)
		}
	}
	for n := range l { // what hangs on one that is left out is not allowed
		if n == 2 || n == 6 || n == 8 || n == 9 {
			_, e := order.Check(shape, image(), slices.Delete(slices.Clone(l), n, n+1))
			if e != api.ErrState {
				t.Errorf("without event %d: %d; want ErrState", n, e)
			}
		}
	}
}

// P18.1: the error of a shape or an image that is none, and 0, whatever the events are.
func TestCheckNoBus(t *testing.T) {
	for _, n := range []int{math.MinInt, -1, 0, 65, 1<<32 + 1, math.MaxInt} {
		for field := range 7 {
			c := shape
			*[]*int{&c.Cores, &c.Lines, &c.Volatile, &c.Sets, &c.Ways, &c.Queue, &c.Store}[field] = n
			for _, l := range [][]api.Event{nil, allowed(), {of(api.EvTell, 0, 0, 0), {}}} {
				if at, e := order.Check(c, nil, l); at != 0 || e != api.ErrArg {
					t.Errorf("%+v: %d, %d; want 0, ErrArg", c, at, e)
				}
			}
		}
	}
	for n := range 10 {
		wantAt, want := 0, api.ErrArg
		if n == 0 || n == 4 {
			wantAt, want = 1, api.OK
		}
		if at, e := order.Check(shape, make([]api.Line, n), []api.Event{of(api.EvTell, 0, 0, 0)}); at != wantAt || e != want {
			t.Errorf("image of %d lines: %d, %d; want %d, %d", n, at, e, wantAt, want)
		}
	}
}

// P18.1: the words are those of the image, of volatile lines 0; without an image all are 0.
func TestCheckImage(t *testing.T) {
	for line, l := range image() {
		for w, v := range l {
			if line == 0 {
				v = 0
			}
			checkAt(t, "its word", []api.Event{of(api.EvLoad, line, w, v)}, 1, api.OK)
			checkAt(t, "another one", []api.Event{of(api.EvLoad, line, w, v+1)}, 0, api.ErrState)
			if at, e := order.Check(shape, nil, []api.Event{of(api.EvLoad, line, w, 0)}); at != 1 || e != api.OK {
				t.Errorf("no image: %d, %d", at, e)
			}
		}
	}
}

// P18.1: each call begins anew, and leaves what it was given as it was.
func TestCheckKeepsNothing(t *testing.T) {
	l, img := allowed(), image()
	for range 3 {
		if at, e := order.Check(shape, img, l[:15]); at != 15 || e != api.OK {
			t.Errorf("%d, %d; want 15, OK", at, e)
		}
	}
	if !slices.Equal(l, allowed()) || !slices.Equal(img, image()) {
		t.Error("what was handed in was changed")
	}
}

// P18.1: longer lists than a trace.
func TestCheckMany(t *testing.T) {
	const many = api.MaxTrace + 5
	l := slices.Repeat([]api.Event{of(api.EvTell, 0, 0, 1)}, many)
	checkAt(t, "many", l, many, api.OK)
	l[many-1].Kind = 0
	checkAt(t, "the last one", l, many-1, api.ErrState)
}

// dice are numbers that come one behind the other, always the same.
type dice uint64

func (d *dice) roll(sides int) int {
	*d = *d*6364136223846793005 + 1442695040888963407
	return int(*d >> 33 % dice(sides))
}

// some gives events that a bus allows one by one, and how many; behind them there is sometimes one that it does not.
func (d *dice) some() (l []api.Event, allowed int) {
	b, _ := bus.New(shape, image())
	for range 10 + d.roll(100) {
		e := api.Event{Kind: 1 + d.roll(14), Core: d.roll(2), Line: d.roll(2), Word: d.roll(2), Val: uint64(d.roll(2))}
		switch {
		case b.Do(e):
			l = append(l, e)
		case d.roll(30) == 0:
			return append(l, e), len(l)
		}
	}
	return l, len(l)
}

// P18.1, P18.2: many lists, beside a bus that is asked event by event.
func TestCheckBesideBus(t *testing.T) {
	d := dice(1)
	for range 3000 {
		l, at := d.some()
		want := api.OK
		if at < len(l) {
			want = api.ErrState
		}
		checkAt(t, "some", l, at, want)
		checkAt(t, "their beginning", l[:at/2], at/2, api.OK)
	}
}
