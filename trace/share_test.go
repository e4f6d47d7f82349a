package trace_test

import (
	"slices"
	"testing"

	"bellows/api"
	"bellows/trace"
)

// mark is an event that no list of these tests has.
var mark = api.Event{Kind: 77, Core: 77, Line: 77, Word: 77, Val: 77}

// spoil writes over the list, its spare room too.
func spoil(l []api.Event) {
	l = l[:cap(l)]
	for i := range l {
		l[i] = mark
	}
}

// spoilVals does the same to values.
func spoilVals(l []uint64) {
	l = l[:cap(l)]
	for i := range l {
		l[i] = 77
	}
}

// shares are the lists that are tried: with failures at many places, and with few.
func shares() [][]api.Event {
	d := dice(9)
	var l [][]api.Event
	for n := range 40 {
		x := some(&d, n)
		for i := range x {
			if n%2 == 1 && i%3 == n%3 {
				x[i] = api.Event{Kind: api.EvFail}
			}
		}
		l = append(l, x)
	}
	return l
}

// Rule 2: what is told shares nothing with what was handed in, and nothing with what is told another time.
func TestToldIsNew(t *testing.T) {
	for _, x := range shares() {
		keep := append(slices.Clone(x), mark, mark)
		l := slices.Clone(keep)[:len(x)]
		for _, kind := range []int{0, api.EvTell, api.EvStore} {
			for core := -1; core < 3; core++ {
				want := slices.Clone(trace.Of(l, kind, core))
				one, two := trace.Of(l, kind, core), trace.Of(l, kind, core)
				spoil(one)
				if !slices.Equal(two, want) {
					t.Fatalf("%d events, kind %d, core %d: two answers share", len(l), kind, core)
				}
			}
		}
		one, two := trace.Tells(l, 1), trace.Tells(l, 1)
		want := slices.Clone(two)
		if spoilVals(one); !slices.Equal(two, want) {
			t.Fatalf("%d events: two answers of Tells share", len(l))
		}
		one, two = trace.Stores(l, 1, 1), trace.Stores(l, 1, 1)
		want = slices.Clone(two)
		if spoilVals(one); !slices.Equal(two, want) {
			t.Fatalf("%d events: two answers of Stores share", len(l))
		}
		if !slices.Equal(l[:len(keep)], keep) {
			t.Fatalf("%d events: what was handed in was changed", len(l))
		}
	}
}

// Rule 2: no two parts share, nor a part and what was handed in, nor parts of two answers.
func TestPartsAreNew(t *testing.T) {
	for _, x := range shares() {
		keep := append(slices.Clone(x), mark, mark)
		l := slices.Clone(keep)[:len(x)]
		want := trace.Cut(slices.Clone(x))
		for n := range want {
			one, two := trace.Cut(l), trace.Cut(l)
			spoil(one[n])
			for i := range want {
				if i != n && !slices.Equal(one[i], want[i]) {
					t.Fatalf("%d events: part %d changed with part %d", len(l), i, n)
				}
			}
			one = one[:cap(one)]
			for i := range one {
				one[i] = []api.Event{mark}
			}
			if !alike(two, want) {
				t.Fatalf("%d events: two answers share", len(l))
			}
		}
		if !slices.Equal(l[:len(keep)], keep) {
			t.Fatalf("%d events: what was handed in was changed", len(l))
		}
	}
}

// Rule 2: what was told stays as it was when what was handed in is written over.
func TestKeepsNothing(t *testing.T) {
	for _, x := range shares() {
		l := slices.Clone(x)
		of, tells, stores, parts := trace.Of(l, 0, -1), trace.Tells(l, 1), trace.Stores(l, 1, 1), trace.Cut(l)
		same := trace.Same(l, x)
		spoil(l)
		if !slices.Equal(of, trace.Of(x, 0, -1)) || !slices.Equal(tells, trace.Tells(x, 1)) || !slices.Equal(stores, trace.Stores(x, 1, 1)) || !alike(parts, trace.Cut(x)) || !same {
			t.Fatalf("%d events: what was told changed", len(x))
		}
	}
}

// Rule 2: Same changes nothing, of equal lists and of others.
func TestSameChangesNothing(t *testing.T) {
	for _, x := range shares() {
		keep := append(slices.Clone(x), mark)
		a, b := slices.Clone(keep)[:len(x)], slices.Clone(keep)[:len(x)]
		trace.Same(a, b)
		trace.Same(a, b[:len(b)/2])
		if !slices.Equal(a[:len(keep)], keep) || !slices.Equal(b[:len(keep)], keep) {
			t.Fatalf("%d events: what was handed in was changed", len(x))
		}
	}
}
