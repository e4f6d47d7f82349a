package sbuf_test

import (
	"math"
	"slices"
	"testing"

	"bellows/api"
	"bellows/sbuf"
)

// kinds are those that an entry may have, by their numbers as the given package has them: St, Clwb, Opt, Flush.
var kinds = []int{9, 12, 13, 14}

// far are numbers of no kind, no line and no word; some come to good ones where bits are lost.
var far = []int{math.MinInt, math.MinInt + 1, math.MinInt + 9, -1 << 32, -1<<32 + 3, -256, -247, -65, -64, -16, -9, -8, -7, -1, 64, 65, 127, 128, 256, 257, 265, 1 << 31, 1 << 32, 1<<32 + 1, 1<<32 + 9, math.MaxInt - 1, math.MaxInt}

// vals are words that a store may have.
var vals = []uint64{0, 1, 1 << 31, 1 << 32, 1 << 63, math.MaxUint64}

func store(line, word int, v uint64) sbuf.Entry {
	return sbuf.Entry{Kind: api.St, Line: line, Word: word, Val: v}
}

func flush(kind, line int) sbuf.Entry {
	return sbuf.Entry{Kind: kind, Line: line}
}

// number is a store that tells apart from those of other numbers.
func number(n int) sbuf.Entry {
	return store(n%api.MaxLines, n%api.Words, uint64(n)+1)
}

// numbers are the entries of the numbers from first on, to the one ahead of end.
func numbers(first, end int) []sbuf.Entry {
	var l []sbuf.Entry
	for n := first; n < end; n++ {
		l = append(l, number(n))
	}
	return l
}

func newBuffer(t *testing.T, room int) *sbuf.Buffer {
	t.Helper()
	b, e := sbuf.New(room)
	if b == nil || e != api.OK {
		t.Fatalf("New(%d): %v, %d; want a buffer", room, b, e)
	}
	return b
}

func push(t *testing.T, b *sbuf.Buffer, l ...sbuf.Entry) {
	t.Helper()
	for _, e := range l {
		checkPush(t, b, "push", e, api.OK)
	}
}

func checkPush(t *testing.T, b *sbuf.Buffer, what string, e sbuf.Entry, want api.Errno) {
	t.Helper()
	if got := b.Push(e); got != want {
		t.Errorf("%s: Push(%+v): %d; want %d", what, e, got, want)
	}
}

// pop takes the first entry out, which is to be want.
func pop(t *testing.T, b *sbuf.Buffer, want sbuf.Entry) {
	t.Helper()
	if e, ok := b.Pop(); e != want || !ok {
		t.Errorf("Pop: %+v, %v; want %+v", e, ok, want)
	}
}

func checkFind(t *testing.T, b *sbuf.Buffer, what string, line, word int, want uint64, ok bool) {
	t.Helper()
	if got, gotOK := b.Find(line, word); got != want || gotOK != ok {
		t.Errorf("%s: Find(%d, %d): %d, %v; want %d, %v", what, line, word, got, gotOK, want, ok)
	}
}

// checkBuffer holds Head, Len and All against want.
func checkBuffer(t *testing.T, b *sbuf.Buffer, what string, want ...sbuf.Entry) {
	t.Helper()
	if got := b.Len(); got != len(want) {
		t.Errorf("%s: Len %d; want %d", what, got, len(want))
	}
	if got := b.All(); !slices.Equal(got, want) {
		t.Errorf("%s: All %+v; want %+v", what, got, want)
	}
	var first sbuf.Entry
	if len(want) > 0 {
		first = want[0]
	}
	if e, ok := b.Head(); e != first || ok != (len(want) > 0) {
		t.Errorf("%s: Head %+v, %v; want %+v", what, e, ok, first)
	}
}

// checkEmpty holds that there is nothing to tell, to find, to send or to pop.
func checkEmpty(t *testing.T, b *sbuf.Buffer, what string) {
	t.Helper()
	for range 2 {
		b.Send()
		checkBuffer(t, b, what)
		if e, ok := b.Pop(); e != (sbuf.Entry{}) || ok {
			t.Errorf("%s: Pop %+v, %v; want none", what, e, ok)
		}
		for line := range api.MaxLines {
			for word := range api.Words {
				checkFind(t, b, what, line, word, 0, false)
			}
		}
	}
}

// noForms are entries that no buffer takes.
func noForms() []sbuf.Entry {
	l := []sbuf.Entry{
		{},
		{Kind: api.St, Line: 3, Word: 2, Val: 5, Sent: true},
		{Kind: api.Clwb, Line: 3, Sent: true},
		{Kind: api.Opt, Line: 3, Sent: true},
		{Kind: api.Flush, Line: 3, Sent: true},
	}
	for _, n := range append([]int{8}, far...) {
		l = append(l, store(3, n, 5))
	}
	for _, n := range far {
		l = append(l, flush(n, 3))
	}
	for _, kind := range kinds {
		for _, n := range far {
			l = append(l, flush(kind, n))
		}
		if kind != api.St {
			l = append(l, sbuf.Entry{Kind: kind, Line: 3, Word: 2}, sbuf.Entry{Kind: kind, Line: 3, Val: 5})
		}
	}
	return l
}

// P12.1: every room that there is: empty, and so many entries fit; those beside them, and far ones.
func TestNew(t *testing.T) {
	rooms := slices.Clone(far)
	for room := -20; room <= 40; room++ {
		rooms = append(rooms, room)
	}
	for _, room := range rooms {
		if room >= 1 && room <= 16 {
			b := newBuffer(t, room)
			checkEmpty(t, b, "new")
			push(t, b, numbers(0, room)...)
			checkPush(t, b, "full", number(room), api.ErrFull)
			checkBuffer(t, b, "full", numbers(0, room)...)
		} else if b, e := sbuf.New(room); b != nil || e != api.ErrArg {
			t.Errorf("New(%d): %v, %d; want nil, ErrArg", room, b, e)
		}
	}
}

// P12.1: of nil there is nothing to tell, and nothing is done.
func TestNil(t *testing.T) {
	var b *sbuf.Buffer
	for _, e := range append(noForms(), store(3, 2, 5), flush(api.Flush, 3), flush(api.Clwb, 0)) {
		checkPush(t, b, "nil", e, api.ErrArg)
	}
	b.Clear()
	checkEmpty(t, b, "nil")
	for _, n := range far {
		checkFind(t, b, "nil", n, 0, 0, false)
		checkFind(t, b, "nil", 0, n, 0, false)
	}
}

// P12.1: each store and each flush that there is is taken, and told whole.
func TestPushEveryForm(t *testing.T) {
	b := newBuffer(t, 2)
	for line := range api.MaxLines {
		for word := range api.Words {
			for _, v := range vals {
				push(t, b, store(line, word, v), number(1))
				checkBuffer(t, b, "a store", store(line, word, v), number(1))
				pop(t, b, store(line, word, v))
				pop(t, b, number(1))
			}
		}
		for _, kind := range []int{api.Clwb, api.Opt, api.Flush} {
			push(t, b, number(1), flush(kind, line))
			checkBuffer(t, b, "a flush", number(1), flush(kind, line))
			pop(t, b, number(1))
			pop(t, b, flush(kind, line))
		}
	}
	checkEmpty(t, b, "popped")
}

// P12.1: of all kinds about those that there are, these alone; words and values are of stores alone, and what is handed in was not sent.
func TestPushEveryKind(t *testing.T) {
	for kind := -300; kind <= 300; kind++ {
		for _, word := range []int{-1, 0, 1, 7, 8} {
			for _, v := range vals {
				for _, sent := range []bool{false, true} {
					b := newBuffer(t, 1)
					want := api.ErrForm
					isStore := kind == 9 && word >= 0 && word <= 7
					isFlush := kind >= 12 && kind <= 14 && word == 0 && v == 0
					if !sent && (isStore || isFlush) {
						want = api.OK
					}
					checkPush(t, b, "new", sbuf.Entry{Kind: kind, Line: 3, Word: word, Val: v, Sent: sent}, want)
				}
			}
		}
	}
}

// P12.1: what has no form is not taken and changes nothing; of a full buffer too this is what is told.
func TestPushNoForm(t *testing.T) {
	for _, room := range []int{1, 2, 3, 16} {
		b := newBuffer(t, room)
		for _, many := range []int{0, room - 1, room} {
			push(t, b, numbers(b.Len(), many)...)
			for _, e := range noForms() {
				checkPush(t, b, "no form", e, api.ErrForm)
			}
			checkBuffer(t, b, "behind wrong forms", numbers(0, many)...)
		}
	}
}

// P12.1: with each entry that is gone there is room for one, of whatever kind, and for no more.
func TestFull(t *testing.T) {
	for room := 1; room <= 16; room++ {
		b := newBuffer(t, room)
		push(t, b, numbers(0, room)...)
		for n := range 50 {
			for _, kind := range kinds {
				checkPush(t, b, "full", flush(kind, 3), api.ErrFull)
			}
			checkBuffer(t, b, "full", numbers(n, n+room)...)
			pop(t, b, number(n))
			push(t, b, number(n+room))
		}
		b.Clear()
		push(t, b, numbers(0, room)...)
		checkPush(t, b, "full behind Clear", number(room), api.ErrFull)
	}
}

// P12.2: the chapter's example.
func TestExample(t *testing.T) {
	b := newBuffer(t, 2)
	push(t, b, store(1, 2, 5), store(1, 2, 7))
	checkFind(t, b, "pushed", 1, 2, 7, true)
	checkBuffer(t, b, "pushed", store(1, 2, 5), store(1, 2, 7))
}

// P12.2: each place has its own store, and no other place is found.
func TestFindEveryPlace(t *testing.T) {
	for line := range api.MaxLines {
		for word := range api.Words {
			b := newBuffer(t, 3)
			push(t, b, store(line, word, 5))
			for l := range api.MaxLines {
				for w := range api.Words {
					if l == line && w == word {
						checkFind(t, b, "pushed", l, w, 5, true)
					} else {
						checkFind(t, b, "pushed", l, w, 0, false)
					}
				}
			}
		}
	}
}

// P12.2: places that there are not are not found; 0 is a value like others.
func TestFindWrong(t *testing.T) {
	b := newBuffer(t, 16)
	for word := range api.Words {
		push(t, b, store(0, word, 0), store(63, word, 5))
	}
	for _, n := range append([]int{8, 9}, far...) {
		checkFind(t, b, "full", 0, n, 0, false)
		checkFind(t, b, "full", 63, n, 0, false)
		checkFind(t, b, "full", n, n, 0, false)
	}
	for _, n := range far {
		for word := range api.Words {
			checkFind(t, b, "full", n, word, 0, false)
		}
	}
	checkFind(t, b, "full", 0, 3, 0, true)
	checkFind(t, b, "full", 63, 7, 5, true)
}

// P12.2: flushes of a line are no stores there, neither ahead of one nor behind it.
func TestFindNoFlush(t *testing.T) {
	for _, kind := range []int{api.Clwb, api.Opt, api.Flush} {
		for _, line := range []int{0, 1, 63} {
			b := newBuffer(t, 3)
			push(t, b, flush(kind, line))
			for word := range api.Words {
				checkFind(t, b, "a flush", line, word, 0, false)
			}
			push(t, b, store(line, 0, 5), flush(kind, line))
			checkFind(t, b, "between two flushes", line, 0, 5, true)
			b.Send()
			checkFind(t, b, "behind Send", line, 0, 5, true)
			pop(t, b, b.All()[0])
			pop(t, b, store(line, 0, 5))
			checkFind(t, b, "behind the store", line, 0, 0, false)
		}
	}
}

// P12.2: Head takes nothing out, Pop the first one alone; what was popped is not found.
func TestHeadAndPop(t *testing.T) {
	b := newBuffer(t, 16)
	want := numbers(0, 16)
	push(t, b, want...)
	for n, e := range want {
		for range 3 {
			checkBuffer(t, b, "pushed", want[n:]...)
			checkFind(t, b, "pushed", e.Line, e.Word, e.Val, true)
		}
		pop(t, b, e)
		checkFind(t, b, "popped", e.Line, e.Word, 0, false)
	}
	checkEmpty(t, b, "popped")
}

// P12.2: of two stores to one place the one that is left is found, till it is gone too.
func TestPopOfOnePlace(t *testing.T) {
	b := newBuffer(t, 4)
	push(t, b, store(2, 3, 5), store(2, 3, 5), store(2, 4, 6), store(2, 3, 0))
	for n, e := range b.All() {
		checkFind(t, b, "pushed", 2, 3, 0, true)
		checkFind(t, b, "pushed", 2, 4, []uint64{6, 6, 6, 0}[n], n < 3)
		pop(t, b, e)
	}
	checkFind(t, b, "popped", 2, 3, 0, false)
}

// P12.2: a first one that is Flush is Sent, however often it is said; nothing else is.
func TestSend(t *testing.T) {
	firsts := []sbuf.Entry{store(3, 2, 5), store(3, 0, 0), flush(api.Clwb, 3), flush(api.Opt, 3), flush(api.Flush, 3)}
	for _, first := range firsts {
		b := newBuffer(t, 3)
		rest := []sbuf.Entry{flush(api.Flush, 3), flush(api.Flush, 4)}
		push(t, b, first)
		push(t, b, rest...)
		for range 3 {
			b.Send()
			first.Sent = first.Kind == api.Flush
			checkBuffer(t, b, "sent", append([]sbuf.Entry{first}, rest...)...)
		}
		pop(t, b, first)
		checkBuffer(t, b, "popped", rest...)
		b.Send()
		rest[0].Sent = true
		checkBuffer(t, b, "the next one", rest...)
		push(t, b, flush(api.Flush, 3))
		checkBuffer(t, b, "pushed again", append(rest, flush(api.Flush, 3))...)
	}
}

// P12.2: nothing of what was Sent is left to what stands at its place later.
func TestSendIsGone(t *testing.T) {
	b := newBuffer(t, 1)
	for n := range 100 {
		push(t, b, flush(api.Flush, 5))
		checkBuffer(t, b, "pushed", flush(api.Flush, 5))
		b.Send()
		if n%30 == 29 {
			b.Clear()
		} else {
			pop(t, b, sbuf.Entry{Kind: api.Flush, Line: 5, Sent: true})
		}
	}
}

// P12.2: Clear leaves none, however many there were and wherever the first one stood, and nothing of them comes back.
func TestClear(t *testing.T) {
	for room := 1; room <= 16; room++ {
		for gone := range 33 {
			for many := range room + 1 {
				b := newBuffer(t, room)
				for n := range gone {
					push(t, b, number(n))
					pop(t, b, number(n))
				}
				push(t, b, numbers(0, many)...)
				b.Clear()
				checkBuffer(t, b, "cleared")
				for _, e := range numbers(0, many) {
					checkFind(t, b, "cleared", e.Line, e.Word, 0, false)
				}
				push(t, b, numbers(50, 50+room)...)
				checkBuffer(t, b, "pushed again", numbers(50, 50+room)...)
			}
		}
	}
	b := newBuffer(t, 3)
	push(t, b, numbers(0, 3)...)
	b.Clear()
	checkEmpty(t, b, "cleared")
}

// P12.2: what All tells is new memory, its spare room too; it stays as it was.
func TestAllIsNew(t *testing.T) {
	b := newBuffer(t, 8)
	push(t, b, numbers(0, 5)...)
	pop(t, b, number(0))
	one, two := b.All(), b.All()
	one = one[:cap(one)]
	for i := range one {
		one[i] = number(77)
	}
	checkBuffer(t, b, "behind a changed answer", numbers(1, 5)...)
	push(t, b, numbers(5, 9)...)
	pop(t, b, number(1))
	b.Clear()
	push(t, b, numbers(20, 28)...)
	if want := numbers(1, 5); !slices.Equal(two, want) {
		t.Errorf("an answer became %+v; want %+v", two, want)
	}
	if slices.Contains(two[:cap(two)], number(77)) {
		t.Error("two answers share their spare room")
	}
	checkBuffer(t, b, "pushed again", numbers(20, 28)...)
}

// Two buffers share nothing.
func TestBuffersAreApart(t *testing.T) {
	one, two := newBuffer(t, 3), newBuffer(t, 2)
	push(t, one, numbers(0, 3)...)
	checkEmpty(t, two, "the other one")
	push(t, two, numbers(10, 12)...)
	pop(t, one, number(0))
	checkBuffer(t, one, "one", numbers(1, 3)...)
	checkBuffer(t, two, "two", numbers(10, 12)...)
	one.Clear()
	checkBuffer(t, two, "two", numbers(10, 12)...)
}
