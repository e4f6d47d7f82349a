package persist_test

import (
	"slices"
	"testing"

	"bellows/api"
	"bellows/persist"
)

// mark is an event that no list of these tests has.
var mark = api.Event{Kind: 77, Core: 77, Line: 77, Word: 77, Val: 77}

// spoil writes over the moments, their spare room too.
func spoil(h []api.Line) {
	h = h[:cap(h)]
	for i := range h {
		h[i] = api.Line{77, 77, 77, 77, 77, 77, 77, 77}
	}
}

// Rule 2: what is handed in is left as it was, its spare room too; it is not kept.
func TestChangesNothing(t *testing.T) {
	d := dice(3)
	for n := range 60 {
		x := d.some(n)
		keep := append(slices.Clone(x), mark, mark)
		l := slices.Clone(keep)[:n]
		h, sure, may, word := persist.History(first, l, 1), persist.Sure(l, 1), persist.May(first, first, l, 1), persist.Word(9, 1, l, 1, 1)
		if !slices.Equal(l[:len(keep)], keep) {
			t.Fatalf("%d events: what was handed in was changed", n)
		}
		for i := range l {
			l[i] = mark
		}
		if !slices.Equal(h, persist.History(first, x, 1)) || sure != persist.Sure(x, 1) || may != persist.May(first, first, x, 1) || word != persist.Word(9, 1, x, 1, 1) {
			t.Fatalf("%d events: another answer the next time", n)
		}
	}
}

// Rule 2: no two histories share.
func TestToldIsNew(t *testing.T) {
	d := dice(4)
	for n := range 60 {
		l := d.some(n)
		want := plain{first, l, 1}.history()
		one, two := persist.History(first, l, 1), persist.History(first, l, 1)
		spoil(one)
		if !slices.Equal(two, want) || !slices.Equal(persist.History(first, l, 1), want) {
			t.Fatalf("%d events: two histories share", n)
		}
	}
}
