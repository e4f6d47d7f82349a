package trace

import (
	"slices"
	"testing"

	"bellows/api"
)

// P17.1: events are chosen in order, and whatever is asked of them is told, of any type.
func TestChoose(t *testing.T) {
	l := []api.Event{{Kind: 1, Val: 5}, {Kind: 2, Val: 6}, {Kind: 1, Val: 7}, {Kind: 1, Val: 5}}
	ones := func(e api.Event) bool { return e.Kind == 1 }
	if got := choose(l, ones, whole); !slices.Equal(got, []api.Event{l[0], l[2], l[3]}) {
		t.Errorf("events: %v", got)
	}
	if got := choose(l, ones, val); !slices.Equal(got, []uint64{5, 7, 5}) {
		t.Errorf("values: %v", got)
	}
	if got := choose(l, ones, func(e api.Event) string { return string(rune('a' + e.Val)) }); !slices.Equal(got, []string{"f", "h", "f"}) {
		t.Errorf("texts: %v", got)
	}
	if got := choose(l, func(api.Event) bool { return false }, whole); len(got) != 0 {
		t.Errorf("none is wanted: %v", got)
	}
	if got := choose(nil, ones, val); len(got) != 0 {
		t.Errorf("there is none: %v", got)
	}
}
