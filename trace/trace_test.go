package trace_test

import (
	"math"
	"slices"
	"testing"

	"bellows/api"
	"bellows/trace"
)

// far are numbers of which there are no kinds, cores, lines or words; some come to good ones where bits are lost.
var far = []int{math.MinInt, math.MinInt + 1, -1 << 32, -1<<32 + 8, -256, -255, -11, -8, -2, -1, 15, 64, 65, 256, 256 + 8, 1 << 31, 1 << 32, 1<<32 + 1, 1<<32 + 3, 1<<32 + 8, 1<<32 + 11, math.MaxInt - 1, math.MaxInt}

// numbers are those that are good somewhere, and those that are far.
func numbers() []int {
	var l []int
	for n := range 15 {
		l = append(l, n)
	}
	return append(l, far...)
}

type dice uint64

func (d *dice) roll(sides int) int {
	*d = *d*6364136223846793005 + 1442695040888963407
	return int(*d >> 33 % dice(sides))
}

// some is a list of n events, good ones and others, of few cores, lines and words, so that many are alike.
func some(d *dice, n int) []api.Event {
	var l []api.Event
	for range n {
		e := api.Event{Kind: d.roll(15), Core: d.roll(3), Line: d.roll(3), Word: d.roll(3), Val: uint64(d.roll(4))}
		switch d.roll(12) {
		case 0:
			e.Kind = far[d.roll(len(far))]
		case 1:
			e.Core = far[d.roll(len(far))]
		case 2:
			e.Line = far[d.roll(len(far))]
		case 3:
			e.Word = far[d.roll(len(far))]
		case 4:
			e.Val = math.MaxUint64
		}
		l = append(l, e)
	}
	return l
}

// all has an event of every kind, core, line and word of some, each with a value of its own.
func all() []api.Event {
	var l []api.Event
	for kind := -1; kind <= 15; kind++ {
		for core := -2; core <= 8; core++ {
			for place := range 4 {
				l = append(l, api.Event{Kind: kind, Core: core, Line: place / 2, Word: place % 2, Val: uint64(len(l))})
			}
		}
	}
	return l
}

// without is the list without those that are to go.
func without(l []api.Event, goes func(api.Event) bool) []api.Event {
	return slices.DeleteFunc(slices.Clone(l), goes)
}

// P17.1: a small list in full.
func TestSmallList(t *testing.T) {
	l := []api.Event{
		{Kind: api.EvIssue, Core: 0, Line: 1, Word: 2, Val: 5},
		{Kind: api.EvStore, Core: 0, Line: 1, Word: 2, Val: 5},
		{Kind: api.EvTell, Core: 1, Val: 9},
		{Kind: api.EvFail},
		{Kind: api.EvTell, Core: 1, Val: 7},
		{Kind: api.EvStore, Core: 1, Line: 1, Word: 2, Val: 4},
	}
	if got := trace.Of(l, api.EvStore, -1); !slices.Equal(got, []api.Event{l[1], l[5]}) {
		t.Errorf("all stores: %v", got)
	}
	if got := trace.Of(l, 0, 1); !slices.Equal(got, []api.Event{l[2], l[4], l[5]}) {
		t.Errorf("all of core 1: %v", got)
	}
	if got := trace.Of(l, api.EvStore, 1); !slices.Equal(got, l[5:]) {
		t.Errorf("the store of core 1: %v", got)
	}
	if got := trace.Tells(l, 1); !slices.Equal(got, []uint64{9, 7}) {
		t.Errorf("what core 1 tells: %v", got)
	}
	if got := trace.Stores(l, 1, 2); !slices.Equal(got, []uint64{5, 4}) {
		t.Errorf("stores of line 1, word 2: %v", got)
	}
	if got := trace.Cut(l); len(got) != 2 || !slices.Equal(got[0], l[:3]) || !slices.Equal(got[1], l[4:]) {
		t.Errorf("parts: %v", got)
	}
	if !trace.Same(l, slices.Clone(l)) || trace.Same(l, l[1:]) {
		t.Error("a list is like itself, and like no shorter one")
	}
}

// P17.1: Of by kind alone, by core alone, and by both; kind 0 is every one, core -1 is every one, and no other number is.
func TestOf(t *testing.T) {
	l := all()
	for _, kind := range numbers() {
		for _, core := range numbers() {
			want := l
			if kind != 0 {
				want = without(want, func(e api.Event) bool { return e.Kind != kind })
			}
			if core != -1 {
				want = without(want, func(e api.Event) bool { return e.Core != core })
			}
			if got := trace.Of(l, kind, core); !slices.Equal(got, want) {
				t.Fatalf("kind %d, core %d: %d events; want %d", kind, core, len(got), len(want))
			}
		}
	}
	if got := trace.Of(l, 0, -1); len(got) != 17*11*4 || !slices.Equal(got, l) {
		t.Errorf("every event: %d; want %d", len(got), len(l))
	}
	if got := trace.Of(l, api.EvLoad, 3); len(got) != 4 {
		t.Errorf("core 3's readings: %v", got)
	}
}

// P17.1: events of far kinds and cores are chosen by the very numbers.
func TestOfFar(t *testing.T) {
	var l []api.Event
	for _, n := range far {
		l = append(l, api.Event{Kind: n, Core: 1, Val: 1}, api.Event{Kind: 1, Core: n, Val: 2})
	}
	for i, n := range far {
		if got := trace.Of(l, n, 1); len(got) != 1 || got[0] != l[2*i] {
			t.Errorf("kind %d: %v", n, got)
		}
		if got := trace.Of(l, 1, n); n != -1 && (len(got) != 1 || got[0] != l[2*i+1]) {
			t.Errorf("core %d: %v", n, got)
		}
	}
}

// P17.1: of two events that are alike both are told.
func TestTwice(t *testing.T) {
	tell, store := api.Event{Kind: api.EvTell, Val: 5}, api.Event{Kind: api.EvStore, Val: 6}
	l := []api.Event{tell, tell, store, store, tell}
	if got := trace.Of(l, api.EvTell, 0); !slices.Equal(got, []api.Event{tell, tell, tell}) {
		t.Errorf("Of: %v", got)
	}
	if got := trace.Tells(l, 0); !slices.Equal(got, []uint64{5, 5, 5}) {
		t.Errorf("Tells: %v", got)
	}
	if got := trace.Stores(l, 0, 0); !slices.Equal(got, []uint64{6, 6}) {
		t.Errorf("Stores: %v", got)
	}
}

// P17.1: Tells looks at EvTell alone, and at the core's own; -1 is not every core here.
func TestTells(t *testing.T) {
	l := all()
	for _, core := range numbers() {
		var want []uint64
		for _, e := range without(l, func(e api.Event) bool { return e.Kind != 8 || e.Core != core }) {
			want = append(want, e.Val)
		}
		if got := trace.Tells(l, core); !slices.Equal(got, want) {
			t.Errorf("core %d: %v; want %v", core, got, want)
		}
	}
	if got := trace.Tells([]api.Event{{Kind: api.EvTell, Core: 0, Val: 1}, {Kind: api.EvTell, Core: 7, Val: 2}}, -1); len(got) != 0 {
		t.Errorf("core -1: %v", got)
	}
	big := []api.Event{{Kind: api.EvTell, Core: 7, Val: math.MaxUint64}, {Kind: api.EvTell, Core: 7}, {Kind: api.EvTell, Core: 7, Line: 3, Word: 4, Val: 1 << 63}}
	if got := trace.Tells(big, 7); !slices.Equal(got, []uint64{math.MaxUint64, 0, 1 << 63}) {
		t.Errorf("the greatest and the least: %v", got)
	}
}

// P17.1: Stores looks at EvStore alone, of all cores, and at line and word both.
func TestStores(t *testing.T) {
	l := all()
	for _, line := range numbers() {
		for _, word := range numbers() {
			var want []uint64
			for _, e := range without(l, func(e api.Event) bool { return e.Kind != 3 || e.Line != line || e.Word != word }) {
				want = append(want, e.Val)
			}
			if got := trace.Stores(l, line, word); !slices.Equal(got, want) {
				t.Errorf("line %d, word %d: %v; want %v", line, word, got, want)
			}
		}
	}
	for line := range api.MaxLines {
		for word := range api.Words {
			e := api.Event{Kind: api.EvStore, Core: word, Line: line, Word: word, Val: math.MaxUint64 - uint64(line)}
			if got := trace.Stores([]api.Event{e}, line, word); !slices.Equal(got, []uint64{e.Val}) {
				t.Errorf("line %d, word %d: %v", line, word, got)
			}
		}
	}
	if got := trace.Stores(l, -1, -1); len(got) != 0 {
		t.Errorf("line -1, word -1: %v", got)
	}
}

// P17.1: lines and words that are far are held by the very numbers.
func TestStoresFar(t *testing.T) {
	var l []api.Event
	for _, n := range far {
		l = append(l, api.Event{Kind: api.EvStore, Line: n, Word: 1, Val: 1}, api.Event{Kind: api.EvStore, Line: 1, Word: n, Val: 2})
	}
	for _, n := range far {
		if got := trace.Stores(l, n, 1); !slices.Equal(got, []uint64{1}) {
			t.Errorf("line %d: %v", n, got)
		}
		if got := trace.Stores(l, 1, n); !slices.Equal(got, []uint64{2}) {
			t.Errorf("word %d: %v", n, got)
		}
	}
}

// P17.1: of an empty list nothing is told; its parts are one, that is empty.
func TestNone(t *testing.T) {
	for _, l := range [][]api.Event{nil, {}, make([]api.Event, 0, 3)} {
		if len(trace.Of(l, 0, -1)) != 0 || len(trace.Tells(l, 0)) != 0 || len(trace.Stores(l, 0, 0)) != 0 {
			t.Error("something is told of nothing")
		}
		if got := trace.Cut(l); len(got) != 1 || len(got[0]) != 0 {
			t.Errorf("parts of nothing: %v", got)
		}
		if !trace.Same(l, nil) || !trace.Same(nil, l) || !trace.Same(l, []api.Event{}) {
			t.Error("nothing is not like nothing")
		}
	}
}
