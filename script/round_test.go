package script_test

import (
	"math"
	"slices"
	"testing"

	"bellows/api"
	"bellows/script"
)

// none are numbers of which there are no cores, and no lines either; some come to good ones where bits are lost.
var none = []int{math.MinInt, math.MinInt + 1, -1 << 32, -1<<32 + 3, -256, -255, -8, -2, -1, 0, 65, 66, 128, 256, 257, 1 << 31, 1 << 32, 1<<32 + 1, math.MaxInt - 1, math.MaxInt}

// P16.1: of every number of cores and of lines: of each core five acts, in their order, then of each line two.
func TestRound(t *testing.T) {
	for cores := 1; cores <= 8; cores++ {
		for lines := 1; lines <= 64; lines++ {
			got := script.Round(api.Config{Cores: cores, Lines: lines})
			if len(got) != 5*cores+2*lines {
				t.Fatalf("%d cores, %d lines: %d acts", cores, lines, len(got))
			}
			for n, a := range got {
				want := api.Act{Kind: 1 + n%5, Core: n / 5}
				if n -= 5 * cores; n >= 0 {
					want = api.Act{Kind: 6 + 3*(n%2), Line: n / 2}
				}
				if a != want {
					t.Fatalf("%d cores, %d lines: %+v; want %+v", cores, lines, a, want)
				}
			}
		}
	}
}

// P16.1: a round in full.
func TestRoundInFull(t *testing.T) {
	got := script.Round(api.Config{Cores: 2, Lines: 2})
	want := []api.Act{
		{Kind: api.ActExec}, {Kind: api.ActDrain}, {Kind: api.ActUp}, {Kind: api.ActAns}, {Kind: api.ActDn},
		{Kind: api.ActExec, Core: 1}, {Kind: api.ActDrain, Core: 1}, {Kind: api.ActUp, Core: 1}, {Kind: api.ActAns, Core: 1}, {Kind: api.ActDn, Core: 1},
		{Kind: api.ActPush}, {Kind: api.ActMem}, {Kind: api.ActPush, Line: 1}, {Kind: api.ActMem, Line: 1},
	}
	if !slices.Equal(got, want) {
		t.Errorf("%+v; want %+v", got, want)
	}
}

// P16.1: of no cores, or too many, or no lines, or too many, there is no round.
func TestNoRound(t *testing.T) {
	for _, n := range append([]int{9, 10, 16, 63, 64}, none...) {
		if got := script.Round(api.Config{Cores: n, Lines: 2}); len(got) != 0 {
			t.Errorf("%d cores: %d acts; want none", n, len(got))
		}
	}
	for _, n := range none {
		for _, cores := range []int{1, 8, n} {
			if got := script.Round(api.Config{Cores: cores, Lines: n}); len(got) != 0 {
				t.Errorf("%d cores, %d lines: %d acts; want none", cores, n, len(got))
			}
		}
	}
}

// P16.1: nothing else of the configuration is looked at.
func TestRoundLooksAtNoMore(t *testing.T) {
	want := script.Round(api.Config{Cores: 3, Lines: 4})
	for _, n := range append([]int{1, 4}, none...) {
		if got := script.Round(api.Config{Cores: 3, Lines: 4, Volatile: n, Sets: n, Ways: n, Queue: n, Store: n}); !slices.Equal(got, want) {
			t.Errorf("%d: %+v; want %+v", n, got, want)
		}
	}
}

// Rule 2: each round is new memory, its spare room too.
func TestRoundIsNew(t *testing.T) {
	c := api.Config{Cores: 2, Lines: 3}
	one, two := script.Round(c), script.Round(c)
	one = one[:cap(one)]
	for i := range one {
		one[i] = api.Act{Kind: 99}
	}
	if !slices.Equal(two, script.Round(c)) || two[0].Kind != api.ActExec {
		t.Errorf("a round changed with another one: %+v", two)
	}
}
