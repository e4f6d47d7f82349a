package order_test

import (
	"math"
	"slices"
	"testing"

	"bellows/api"
	"bellows/order"
)

// checkLines holds what Ends and Keeps tell of the events.
func checkLines(t *testing.T, what string, c api.Config, img []api.Line, l []api.Event, ends, keeps []api.Line) {
	t.Helper()
	if got, e := order.Ends(c, img, l); !slices.Equal(got, ends) || e != api.OK {
		t.Errorf("%s: ends %v, %d; want %v", what, got, e, ends)
	}
	if got, e := order.Keeps(c, img, l); !slices.Equal(got, keeps) || e != api.OK {
		t.Errorf("%s: keeps %v, %d; want %v", what, got, e, keeps)
	}
}

// checkNone holds that Ends and Keeps tell no lines of the events, but that error.
func checkNone(t *testing.T, what string, c api.Config, img []api.Line, l []api.Event, want api.Errno) {
	t.Helper()
	if got, e := order.Ends(c, img, l); got != nil || e != want {
		t.Errorf("%s: ends %v, %d; want none, %d", what, got, e, want)
	}
	if got, e := order.Keeps(c, img, l); got != nil || e != want {
		t.Errorf("%s: keeps %v, %d; want none, %d", what, got, e, want)
	}
}

// P18.1: without events the lines are those of the image, of volatile lines 0; without an image all are 0.
func TestLinesAtFirst(t *testing.T) {
	want := image()
	want[0] = api.Line{}
	zeros := make([]api.Line, 4)
	for _, l := range [][]api.Event{nil, {}} {
		checkLines(t, "an image", shape, image(), l, want, want)
		checkLines(t, "no image", shape, nil, l, zeros, zeros)
		checkLines(t, "an empty one", shape, []api.Line{}, l, zeros, zeros)
	}
	img := make([]api.Line, api.MaxLines)
	for line := range img {
		for w := range img[line] {
			img[line][w] = math.MaxUint64 - uint64(8*line+w)
		}
	}
	for volatile := 1; volatile < api.MaxLines; volatile++ {
		c := api.Config{Cores: api.MaxCores, Lines: api.MaxLines, Volatile: volatile, Sets: 8, Ways: 8, Queue: 16, Store: 16}
		want := slices.Clone(img)
		clear(want[:volatile])
		checkLines(t, "all lines", c, img, nil, want, want)
	}
}

// P18.1: of events of every kind, and of each beginning of them, what all see and what is kept.
func TestLinesBehindEach(t *testing.T) {
	ends, keeps := image(), image()
	ends[0], keeps[0] = api.Line{}, api.Line{}
	l := allowed()
	for n := range len(l) + 1 {
		checkLines(t, "a beginning", shape, image(), l[:n], ends, keeps)
		switch n { // the stores are events 6 and 13, the push is 9, the failure 17
		case 6:
			ends[1][1] = 5
		case 9:
			keeps[1][1] = 5
		case 13:
			ends[2][0] = 22
		case 17:
			ends[2][0] = 20
		}
	}
}

// P18.1: a store is seen by all when it has left the buffer, and kept when its line was pushed behind that; a line that forgets never is.
func TestLinesOfStores(t *testing.T) {
	for line := range shape.Lines {
		for w := range api.Words {
			issue, store, push, fail := of(api.EvIssue, line, w, 7), of(api.EvStore, line, w, 7), of(api.EvPush, line, 0, 0), api.Event{Kind: api.EvFail}
			old := image()
			old[0] = api.Line{}
			seen := slices.Clone(old)
			seen[line][w] = 7
			kept := seen
			if line == 0 {
				kept = old
			}
			for _, x := range []struct {
				what        string
				l           []api.Event
				ends, keeps []api.Line
			}{
				{"in the buffer", []api.Event{issue}, old, old},
				{"pushed ahead", []api.Event{issue, push}, old, old},
				{"seen", []api.Event{issue, store}, seen, old},
				{"seen, pushed ahead", []api.Event{issue, push, store}, seen, old},
				{"another line pushed", []api.Event{issue, store, of(api.EvPush, (line+1)%4, 0, 0)}, seen, old},
				{"pushed", []api.Event{issue, store, push}, seen, kept},
				{"failed in the buffer", []api.Event{issue, push, fail}, old, old},
				{"failed", []api.Event{issue, store, fail}, old, old},
				{"failed, then pushed", []api.Event{issue, store, fail, push}, old, old},
				{"pushed, then failed", []api.Event{issue, store, push, fail}, kept, kept},
				{"failed twice", []api.Event{issue, store, push, fail, fail}, kept, kept},
				{"by a locked operation", []api.Event{of(api.EvRmw, line, w, old[line][w]), store}, seen, old},
				{"by a locked operation, pushed", []api.Event{of(api.EvRmw, line, w, old[line][w]), store, push}, seen, kept},
			} {
				checkLines(t, x.what, shape, image(), x.l, x.ends, x.keeps)
			}
		}
	}
}

// P18.1: no lines, if one event is not allowed, wherever it stands, and whatever stands behind it.
func TestLinesNotAllowed(t *testing.T) {
	l := allowed()
	for n := range len(l) + 1 {
		for _, bad := range []api.Event{{}, {Kind: 15}, {Kind: -1}, {Kind: math.MaxInt}, of(api.EvLoad, 3, 1, 32), of(api.EvPush, 4, 0, 0), of(api.EvPush, -1, 0, 0), of(api.EvStore, 3, 1, 31), of(api.EvFlush, 3, 0, 0), {Kind: api.EvTell, Core: 2}, {Kind: api.EvTell, Core: math.MinInt}} {
			checkNone(t, "one", shape, image(), slices.Insert(slices.Clone(l), n, bad), api.ErrState)
			checkNone(t, "the last one", shape, image(), append(slices.Clone(l[:n]), bad), api.ErrState)
			checkNone(t, "a failure behind it", shape, image(), append(slices.Clone(l[:n]), bad, api.Event{Kind: api.EvFail}), api.ErrState)
		}
	}
}

// P18.1: no lines, but bus.New's error, of a shape or an image that is none, ahead of any event's.
func TestLinesNoBus(t *testing.T) {
	bad := []api.Event{{}}
	for _, n := range []int{math.MinInt, -1, 0, 65, 1<<32 + 1, math.MaxInt} {
		for field := range 7 {
			c := shape
			*[]*int{&c.Cores, &c.Lines, &c.Volatile, &c.Sets, &c.Ways, &c.Queue, &c.Store}[field] = n
			for _, l := range [][]api.Event{nil, allowed(), bad} {
				checkNone(t, "no shape", c, nil, l, api.ErrArg)
			}
		}
	}
	for n := range 10 {
		if n == 0 || n == 4 {
			checkNone(t, "a good image", shape, make([]api.Line, n), bad, api.ErrState)
			continue
		}
		for _, l := range [][]api.Event{nil, {of(api.EvTell, 0, 0, 0)}, bad} {
			checkNone(t, "no image", shape, make([]api.Line, n), l, api.ErrArg)
		}
	}
}

// P18.1: lists that are longer than a trace.
func TestLinesOfMany(t *testing.T) {
	const many = api.MaxTrace/2 + 5
	var l []api.Event
	want := image()
	want[0] = api.Line{}
	for n := range uint64(many) {
		l = append(l, of(api.EvIssue, 3, 2, n), of(api.EvStore, 3, 2, n))
	}
	keeps := slices.Clone(want)
	want[3][2] = many - 1
	checkLines(t, "many", shape, image(), l, want, keeps)
	checkLines(t, "many, and pushed", shape, image(), append(l, of(api.EvPush, 3, 0, 0)), want, want)
	checkNone(t, "the last one", shape, image(), append(l, api.Event{}), api.ErrState)
}
