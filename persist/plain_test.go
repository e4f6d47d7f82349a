package persist_test

import (
	"slices"
	"testing"

	"bellows/api"
	"bellows/persist"
)

// plain is what the words of the chapter say of a line, looked up beginning by beginning.
type plain struct {
	first api.Line
	l     []api.Event
	line  int
}

// behind is the words behind the first n events: of each word its last store's value.
func (p plain) behind(n int) api.Line {
	words := p.first
	for w := range words {
		for _, e := range p.l[:n] {
			if e.Kind == api.EvStore && e.Line == p.line && e.Word == w {
				words[w] = e.Val
			}
		}
	}
	return words
}

// moments are how many events stand ahead of each moment, its store with them.
func (p plain) moments() []int {
	at := []int{0}
	for n, e := range p.l {
		if e.Kind == api.EvStore && e.Line == p.line {
			at = append(at, n+1)
		}
	}
	return at
}

func (p plain) history() (h []api.Line) {
	for _, n := range p.moments() {
		h = append(h, p.behind(n))
	}
	return h
}

// sure is the last moment that is not behind the last push.
func (p plain) sure() int {
	last := 0
	for n, e := range p.l {
		if e.Kind == api.EvPush && e.Line == p.line {
			last = n
		}
	}
	sure := 0
	for moment, n := range p.moments() {
		if n <= last {
			sure = moment
		}
	}
	return sure
}

func (p plain) may(left api.Line) bool {
	return slices.Contains(p.history()[p.sure():], left)
}

func (p plain) word(left uint64, w int) bool {
	for _, e := range p.l {
		if e.Kind == api.EvStore && e.Line == p.line && e.Word == w && e.Val == left {
			return true
		}
	}
	return left == p.first[w]
}

// check holds all four calls against the plain ones, of the lines that are left, and P19.2 of those that may be.
func (p plain) check(t *testing.T, left []api.Line) (may int) {
	t.Helper()
	if got := persist.History(p.first, p.l, p.line); !slices.Equal(got, p.history()) {
		t.Fatalf("line %d of %+v: history %v; want %v", p.line, p.l, got, p.history())
	}
	if got := persist.Sure(p.l, p.line); got != p.sure() {
		t.Fatalf("line %d of %+v: sure %d; want %d", p.line, p.l, got, p.sure())
	}
	for _, x := range left {
		got := persist.May(p.first, x, p.l, p.line)
		if got != p.may(x) {
			t.Fatalf("line %d of %+v: may %v be left: %v", p.line, p.l, x, got)
		}
		if got {
			may++
		}
		for w, v := range x {
			word := persist.Word(p.first[w], v, p.l, p.line, w)
			if word != p.word(v, w) {
				t.Fatalf("line %d of %+v: may word %d be %d: %v", p.line, p.l, w, v, word)
			}
			if got && !word {
				t.Fatalf("line %d of %+v: %v may be left, but not its word %d", p.line, p.l, x, w)
			}
		}
	}
	return may
}

// P19.1, P19.2: all lists of up to five events of nine.
func TestAllShortLists(t *testing.T) {
	events := []api.Event{store(3, 0, 1), store(3, 0, 2), store(3, 1, 1), store(3, 9, 5), store(2, 0, 1), push(3), push(2), {Kind: api.EvLoad, Line: 3, Val: 2}, {Kind: api.EvFail, Line: 3}}
	var left []api.Line
	for n := range uint64(9) {
		left = append(left, api.Line{n % 3, n / 3})
	}
	var try func(l []api.Event)
	try = func(l []api.Event) {
		plain{api.Line{}, l, 3}.check(t, left)
		if len(l) == 5 {
			return
		}
		for _, e := range events {
			try(append(slices.Clone(l), e))
		}
	}
	try(nil)
}

// dice are numbers that come one behind the other, always the same.
type dice uint64

func (d *dice) roll(sides int) int {
	*d = *d*6364136223846793005 + 1442695040888963407
	return int(*d >> 33 % dice(sides))
}

// some is a list of n events of few lines and words, many of them stores.
func (d *dice) some(n int) []api.Event {
	var l []api.Event
	for range n {
		e := api.Event{Kind: d.roll(16), Core: d.roll(3), Line: d.roll(3), Word: d.roll(10) - 1, Val: uint64(d.roll(4))}
		switch d.roll(8) {
		case 0, 1, 2:
			e.Kind = api.EvStore
		case 3:
			e.Line = far[d.roll(len(far))]
		case 4:
			e.Word = far[d.roll(len(far))]
		}
		l = append(l, e)
	}
	return l
}

// P19.1, P19.2: many lists beside the plain meaning; left are true moments, some of them with another word, and mixtures of two.
func TestManyLists(t *testing.T) {
	d := dice(7)
	may, mayNot := 0, 0
	for n := range 1500 {
		p := plain{l: d.some(n % 60), line: d.roll(3)}
		for w := range p.first {
			p.first[w] = uint64(d.roll(5))
		}
		h := p.history()
		var left []api.Line
		for range 10 {
			x, y := h[d.roll(len(h))], h[d.roll(len(h))]
			left = append(left, x, with(x, d.roll(8), uint64(d.roll(4))))
			from := d.roll(8)
			copy(x[from:], y[from:])
			left = append(left, x)
		}
		fits := p.check(t, left)
		may, mayNot = may+fits, mayNot+len(left)-fits
	}
	if may < 1000 || mayNot < 1000 {
		t.Errorf("%d may be left, %d may not; want more", may, mayNot)
	}
}

// P19.1: lists that are longer than a trace.
func TestLongLists(t *testing.T) {
	const many = 2 * api.MaxTrace
	var l []api.Event
	for n := range uint64(many) {
		l = append(l, store(3, int(n%8), n))
	}
	h := persist.History(first, l, 3)
	if len(h) != many+1 || h[0] != first || h[many] != (api.Line{many - 8, many - 7, many - 6, many - 5, many - 4, many - 3, many - 2, many - 1}) {
		t.Fatalf("%d moments, the last one %v", len(h), h[len(h)-1])
	}
	for _, n := range []int{0, 1, many / 2, many - 1, many} {
		pushed := slices.Insert(slices.Clone(l), n, push(3))
		checkSure(t, "pushed", pushed, 3, n)
		if n > 0 && persist.May(first, h[n-1], pushed, 3) || !persist.May(first, h[n], pushed, 3) || !persist.May(first, h[many], pushed, 3) {
			t.Errorf("pushed behind %d stores: what may be left", n)
		}
		if n > 0 && !persist.Word(0, uint64(n-1), pushed, 3, (n-1)%8) || persist.Word(0, many, pushed, 3, 0) {
			t.Errorf("pushed behind %d stores: what may be left of a word", n)
		}
	}
}
