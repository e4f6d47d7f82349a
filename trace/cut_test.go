package trace_test

import (
	"math"
	"slices"
	"testing"

	"bellows/api"
	"bellows/trace"
)

// alike tells whether the parts are those that are wanted.
func alike(got, want [][]api.Event) bool {
	return slices.EqualFunc(got, want, func(a, b []api.Event) bool { return slices.Equal(a, b) })
}

// join is the parts one behind the other, a failure between each two.
func join(parts [][]api.Event) []api.Event {
	var l []api.Event
	for n, p := range parts {
		if n > 0 {
			l = append(l, api.Event{Kind: api.EvFail})
		}
		l = append(l, p...)
	}
	return l
}

// P17.1: failures at every place: first, last, one behind the other.
func TestCutAtEveryPlace(t *testing.T) {
	const size = 8
	for fails := range 1 << size {
		var l []api.Event
		want := [][]api.Event{nil}
		for n := range size {
			if fails>>n&1 == 1 {
				l = append(l, api.Event{Kind: api.EvFail})
				want = append(want, nil)
				continue
			}
			e := api.Event{Kind: api.EvTell, Val: uint64(n)}
			l = append(l, e)
			want[len(want)-1] = append(want[len(want)-1], e)
		}
		if got := trace.Cut(l); !alike(got, want) {
			t.Fatalf("%08b: %v; want %v", fails, got, want)
		}
	}
}

// P17.1: no other kind cuts.
func TestCutAtNoOther(t *testing.T) {
	for _, kind := range numbers() {
		l := []api.Event{{Kind: kind, Core: 1}, {Kind: kind, Core: 2}}
		want := [][]api.Event{l}
		if kind == 11 {
			want = [][]api.Event{nil, nil, nil}
		}
		if got := trace.Cut(l); !alike(got, want) {
			t.Errorf("kind %d: %v; want %v", kind, got, want)
		}
	}
}

// P17.1: an EvFail cuts, whatever else it has.
func TestCutByKindAlone(t *testing.T) {
	tell := api.Event{Kind: api.EvTell, Val: 1}
	for _, n := range numbers() {
		for _, fail := range []api.Event{
			{Kind: api.EvFail, Core: n}, {Kind: api.EvFail, Line: n}, {Kind: api.EvFail, Word: n}, {Kind: api.EvFail, Val: uint64(n)},
		} {
			if got := trace.Cut([]api.Event{tell, fail, tell, tell}); !alike(got, [][]api.Event{{tell}, {tell, tell}}) {
				t.Errorf("%+v: %v", fail, got)
			}
		}
	}
}

// P17.2: the parts, EvFail between, are the whole; there is one part more than there are EvFail, and none is in a part.
func TestPartsAreTheWhole(t *testing.T) {
	d := dice(17)
	for n := range 400 {
		l := some(&d, n)
		for i := range l {
			if l[i].Kind == api.EvFail || d.roll(1+n%40) == 0 {
				l[i] = api.Event{Kind: api.EvFail}
			}
		}
		parts := trace.Cut(l)
		if want := 1 + len(trace.Of(l, api.EvFail, -1)); len(parts) != want {
			t.Fatalf("%d events: %d parts; want %d", n, len(parts), want)
		}
		for _, p := range parts {
			if len(trace.Of(p, api.EvFail, -1)) != 0 {
				t.Fatalf("%d events: a failure in a part: %v", n, p)
			}
		}
		if !trace.Same(join(parts), l) {
			t.Fatalf("%d events: the parts are not the whole", n)
		}
	}
}

// P17.1: alike are lists of as many events, of which each has all that the other one has.
func TestSame(t *testing.T) {
	d := dice(3)
	for n := range 60 {
		l := some(&d, n)
		if !trace.Same(l, slices.Clone(l)) || !trace.Same(l, l) {
			t.Fatalf("%d events: not like themselves", n)
		}
		for i := range l {
			for part := range 5 {
				other := slices.Clone(l)
				change(&other[i], part)
				if trace.Same(l, other) || trace.Same(other, l) {
					t.Fatalf("%d events: number %d differs, and is taken for alike", n, i)
				}
			}
			if trace.Same(l, l[:i]) || trace.Same(l[:i], l) {
				t.Fatalf("%d events are like %d", n, i)
			}
		}
	}
}

// change makes one part of the event another one, by its highest bit, which is lost first where bits are lost.
func change(e *api.Event, part int) {
	switch part {
	case 0:
		e.Kind ^= math.MinInt
	case 1:
		e.Core ^= math.MinInt
	case 2:
		e.Line ^= math.MinInt
	case 3:
		e.Word ^= math.MinInt
	case 4:
		e.Val ^= 1 << 63
	}
}

// P17.1: the order is looked at, and each event counts, though its fields' sum is the same.
func TestSameByOrder(t *testing.T) {
	a, b := api.Event{Kind: 1, Core: 2}, api.Event{Kind: 2, Core: 1}
	if trace.Same([]api.Event{a, b}, []api.Event{b, a}) {
		t.Error("another order is taken for alike")
	}
	if trace.Same([]api.Event{a, a, b}, []api.Event{a, b, b}) {
		t.Error("other numbers of the same events are taken for alike")
	}
	if trace.Same([]api.Event{{}}, nil) || trace.Same(nil, []api.Event{{}}) {
		t.Error("an event without anything is taken for none")
	}
	if !trace.Same([]api.Event{{}}, []api.Event{{}}) {
		t.Error("events without anything are alike")
	}
}

// P17.1, P17.2: long lists beside the words' plain meaning.
func TestLong(t *testing.T) {
	d := dice(5)
	for range 30 {
		l := some(&d, 3000)
		kind, core, line, word := d.roll(15), d.roll(4)-1, d.roll(3), d.roll(3)
		var of []api.Event
		var tells, stores []uint64
		fails := 0
		for _, e := range l {
			if (kind == 0 || kind == e.Kind) && (core == -1 || core == e.Core) {
				of = append(of, e)
			}
			if e.Kind == api.EvTell && e.Core == core {
				tells = append(tells, e.Val)
			}
			if e.Kind == api.EvStore && e.Line == line && e.Word == word {
				stores = append(stores, e.Val)
			}
			if e.Kind == api.EvFail {
				fails++
			}
		}
		if !slices.Equal(trace.Of(l, kind, core), of) || !slices.Equal(trace.Tells(l, core), tells) || !slices.Equal(trace.Stores(l, line, word), stores) {
			t.Fatalf("kind %d, core %d, line %d, word %d: other events are told", kind, core, line, word)
		}
		if parts := trace.Cut(l); len(parts) != fails+1 || !slices.Equal(slices.Concat(parts...), without(l, func(e api.Event) bool { return e.Kind == api.EvFail })) {
			t.Fatalf("%d failures, %d parts", fails, len(parts))
		}
	}
}
