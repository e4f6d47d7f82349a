package persist_test

import (
	"math"
	"slices"
	"testing"

	"bellows/api"
	"bellows/persist"
)

// far are numbers that are no kinds, cores, lines or words; some come to good ones where bits are lost.
var far = []int{math.MinInt, math.MinInt + 1, -1 << 32, -1<<32 + 3, -256, -8, -1, 8, 15, 64, 65, 256 + 3, 1 << 32, 1<<32 + 1, 1<<32 + 3, 1<<32 + 5, math.MaxInt}

// first has no word that is 0, and no two that are alike.
var first = api.Line{10, 11, 12, 13, 14, 15, 16, 17}

func store(line, w int, v uint64) api.Event {
	return api.Event{Kind: api.EvStore, Line: line, Word: w, Val: v}
}

func push(line int) api.Event { return api.Event{Kind: api.EvPush, Line: line} }

// with is the line l with v as that word.
func with(l api.Line, w int, v uint64) api.Line {
	l[w] = v
	return l
}

func checkHistory(t *testing.T, what string, l []api.Event, line int, want ...api.Line) {
	t.Helper()
	if got := persist.History(first, l, line); !slices.Equal(got, want) {
		t.Errorf("%s: history of line %d: %v; want %v", what, line, got, want)
	}
}

func checkSure(t *testing.T, what string, l []api.Event, line, want int) {
	t.Helper()
	if got := persist.Sure(l, line); got != want {
		t.Errorf("%s: sure of line %d: %d; want %d", what, line, got, want)
	}
}

// checkMay holds which of the lines may be left: those whose numbers are told.
func checkMay(t *testing.T, what string, left []api.Line, l []api.Event, line int, may ...int) {
	t.Helper()
	for n, x := range left {
		if got := persist.May(first, x, l, line); got != slices.Contains(may, n) {
			t.Errorf("%s: may line %d be left as %v: %v", what, line, x, got)
		}
	}
}

// P19.1: the chapter's example.
func TestExample(t *testing.T) {
	l := []api.Event{store(3, 0, 1), push(3), store(3, 0, 2)}
	for v, want := range []bool{false, true, true, false} {
		if got := persist.May(api.Line{}, api.Line{uint64(v)}, l, 3); got != want {
			t.Errorf("may be left as %d: %v", v, got)
		}
	}
	if got := persist.History(api.Line{}, l, 3); !slices.Equal(got, []api.Line{{}, {1}, {2}}) {
		t.Errorf("history: %v", got)
	}
	checkSure(t, "a push between", l, 3, 1)
}

// P19.1: without events, and without those of the line, there is one moment, the first one.
func TestNothingHappens(t *testing.T) {
	left := []api.Line{first, {}, with(first, 7, 0), with(first, 0, 1)}
	for _, l := range [][]api.Event{nil, {}, make([]api.Event, 0, 3), {{}, {}}, {store(4, 0, 1), push(4), store(2, 0, 1)}} {
		checkHistory(t, "nothing", l, 3, first)
		checkSure(t, "nothing", l, 3, 0)
		checkMay(t, "nothing", left, l, 3, 0)
		for _, v := range []uint64{0, 1, 10, math.MaxUint64} {
			if got := persist.Word(10, v, l, 3, 0); got != (v == 10) {
				t.Errorf("word left as %d: %v", v, got)
			}
		}
	}
}

// P19.1: a moment behind each store, also where it changes nothing: of the same value, or of a word that there is not.
func TestEachStoreIsAMoment(t *testing.T) {
	for w := range api.Words {
		l := []api.Event{store(3, w, 5), store(3, w, 5), store(3, w, first[w]), store(3, w, math.MaxUint64), store(3, w, 0)}
		checkHistory(t, "one word", l, 3, first, with(first, w, 5), with(first, w, 5), first, with(first, w, math.MaxUint64), with(first, w, 0))
		checkSure(t, "pushed behind them", append(l, push(3)), 3, 5)
	}
	for _, w := range far {
		l := []api.Event{store(3, w, 5), store(3, 1, 6), store(3, w, 7), push(3), store(3, w, 8)}
		six := with(first, 1, 6)
		checkHistory(t, "no word", l, 3, first, first, six, six, six)
		checkSure(t, "no word", l, 3, 3)
		checkMay(t, "no word", []api.Line{first, six, with(first, 0, 5), with(first, 0, 8)}, l, 3, 1)
		checkMay(t, "no word alone", []api.Line{first, with(first, 0, 5)}, l[:1], 3, 0)
	}
}

// P19.1: each moment has all the words of the one ahead, but that of its store.
func TestMomentsOfAllWords(t *testing.T) {
	var l []api.Event
	want := []api.Line{first}
	now := first
	for turn := range uint64(3) {
		for w := range api.Words {
			v := 100*turn + uint64(w) + 20
			l = append(l, store(3, w, v), store(2, w, 1), push(2))
			now[w] = v
			want = append(want, now)
		}
	}
	checkHistory(t, "all words", l, 3, want...)
	for n := range want {
		may := []int{}
		for m := n; m < len(want); m++ {
			may = append(may, m)
		}
		pushed := slices.Insert(slices.Clone(l), 3*n, push(3))
		checkHistory(t, "pushed", pushed, 3, want...)
		checkSure(t, "pushed", pushed, 3, n)
		checkMay(t, "pushed", want, pushed, 3, may...)
	}
}

// P19.1: the last push counts alone, and only that of the line itself.
func TestPushes(t *testing.T) {
	one, two := with(first, 0, 1), with(first, 0, 2)
	left := []api.Line{first, one, two}
	a, b := store(3, 0, 1), store(3, 0, 2)
	for _, x := range []struct {
		what string
		l    []api.Event
		sure int
		may  []int
	}{
		{"none", []api.Event{a, b}, 0, []int{0, 1, 2}},
		{"ahead", []api.Event{push(3), a, b}, 0, []int{0, 1, 2}},
		{"between", []api.Event{a, push(3), b}, 1, []int{1, 2}},
		{"behind", []api.Event{a, b, push(3)}, 2, []int{2}},
		{"twice behind", []api.Event{a, b, push(3), push(3)}, 2, []int{2}},
		{"ahead and between", []api.Event{push(3), a, push(3), b}, 1, []int{1, 2}},
		{"everywhere", []api.Event{push(3), a, push(3), b, push(3)}, 2, []int{2}},
		{"of other lines", []api.Event{push(2), a, push(4), b, push(0), push(-3), push(3 + 64), push(1<<32 + 3)}, 0, []int{0, 1, 2}},
		{"with other lines behind", []api.Event{a, push(3), push(2), b, push(4)}, 1, []int{1, 2}},
		{"of another core", []api.Event{a, {Kind: api.EvPush, Core: 7, Line: 3, Word: 5, Val: 9}, b}, 1, []int{1, 2}},
	} {
		checkHistory(t, x.what, x.l, 3, left...)
		checkSure(t, x.what, x.l, 3, x.sure)
		checkMay(t, x.what, left, x.l, 3, x.may...)
	}
}

// P19.1: words that were once there may be left, if they are there again behind the push, or at it.
func TestThereAgain(t *testing.T) {
	one, two := with(first, 0, 1), with(first, 0, 2)
	left := []api.Line{first, one, two}
	l := []api.Event{store(3, 0, 1), store(3, 0, 2), push(3), store(3, 0, 1)}
	checkMay(t, "behind the push", left, l, 3, 1, 2)
	l = []api.Event{store(3, 0, 1), store(3, 0, 10), push(3), store(3, 0, 2)}
	checkMay(t, "at the push", left, l, 3, 0, 2)
}

// P19.1: no mixture of two moments, though each of its words alone may be left.
func TestNoMixture(t *testing.T) {
	l := []api.Event{store(3, 0, 1), store(3, 7, 2), store(3, 0, 3)}
	left := []api.Line{first, with(first, 0, 1), with(with(first, 0, 1), 7, 2), with(with(first, 0, 3), 7, 2), with(first, 0, 3), with(first, 7, 2), {}, {1, 7: 2}}
	checkMay(t, "three stores", left, l, 3, 0, 1, 2, 3)
	for n, x := range left[4:6] {
		for w := range x {
			if !persist.Word(first[w], x[w], l, 3, w) {
				t.Errorf("mixture %d, word %d: may not be left", n, w)
			}
		}
	}
}

// P19.1: of all kinds only a store makes a moment or a word, and only a push makes one sure; all cores' stores count.
func TestKinds(t *testing.T) {
	kinds := slices.Clone(far)
	for n := range 16 {
		kinds = append(kinds, n)
	}
	five := with(first, 2, 5)
	for _, kind := range kinds {
		for _, core := range []int{0, 1, 7, -1, math.MaxInt} {
			l := []api.Event{store(3, 2, 4), {Kind: kind, Core: core, Line: 3, Word: 2, Val: 5}}
			want := []api.Line{first, with(first, 2, 4)}
			if kind == api.EvStore {
				want = append(want, five)
			}
			sure := 0
			if kind == api.EvPush {
				sure = 1
			}
			checkHistory(t, "a kind", l, 3, want...)
			checkSure(t, "a kind", l, 3, sure)
			for n, x := range []api.Line{first, with(first, 2, 4), five} {
				if got := persist.May(first, x, l, 3); got != (n >= sure && n < len(want)) {
					t.Errorf("kind %d: may %v be left: %v", kind, x, got)
				}
			}
			if got := persist.Word(12, 5, l, 3, 2); got != (kind == api.EvStore) {
				t.Errorf("kind %d: may the word be 5: %v", kind, got)
			}
		}
	}
}

// P19.1: lines are held by their very numbers, far ones too.
func TestLines(t *testing.T) {
	lines := slices.Clone(far)
	for n := range api.MaxLines {
		lines = append(lines, n)
	}
	var l []api.Event
	for n, line := range lines {
		l = append(l, store(line, 1, uint64(100+n)))
	}
	lines = slices.Compact(slices.Sorted(slices.Values(lines)))
	for _, x := range lines {
		want, vals := []api.Line{first}, map[uint64]int{}
		for _, e := range l {
			if e.Line == x {
				want = append(want, with(first, 1, e.Val))
				vals[e.Val]++
			}
		}
		checkHistory(t, "all lines", l, x, want...)
		checkSure(t, "all lines", append(slices.Clone(l), push(x)), x, len(want)-1)
		for n := range l {
			v := uint64(100 + n)
			if got := persist.Word(11, v, l, x, 1); got != (vals[v] > 0) {
				t.Errorf("line %d: may the word be %d: %v", x, v, got)
			}
		}
	}
}

// P19.1: a word by its very number, of places that there are not too; the first value always, whatever was pushed.
func TestWord(t *testing.T) {
	words := slices.Clone(far)
	for n := range api.Words {
		words = append(words, n)
	}
	words = slices.Compact(slices.Sorted(slices.Values(words)))
	var l []api.Event
	for n, w := range words {
		l = append(l, store(3, w, uint64(100+n)), store(2, w, 500), push(3), store(3, w, math.MaxUint64-uint64(n)))
	}
	for n, w := range words {
		for m := range words {
			low, high := uint64(100+m), math.MaxUint64-uint64(m)
			if persist.Word(1, low, l, 3, w) != (m == n) || persist.Word(1, high, l, 3, w) != (m == n) {
				t.Errorf("word %d: value %d of word %d", w, low, words[m])
			}
		}
		if !persist.Word(1, 1, l, 3, w) || !persist.Word(math.MaxUint64, math.MaxUint64, l, 3, w) || persist.Word(1, 0, l, 3, w) || persist.Word(1, 500, l, 3, w) {
			t.Errorf("word %d: the first value, or one that never was there", w)
		}
	}
}
