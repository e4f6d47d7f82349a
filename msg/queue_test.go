package msg_test

import (
	"slices"
	"testing"

	"bellows/api"
	"bellows/msg"
)

// most is how many messages a queue takes.
const most = 1000

// number is a message that tells apart from those of other numbers.
func number(n int) api.Msg {
	return api.Msg{Kind: api.DataS, Line: n % api.MaxLines, Data: api.Line{uint64(n), 7: 1}}
}

// numbers are the messages of the numbers from first on, to the one ahead of end.
func numbers(first, end int) []api.Msg {
	var l []api.Msg
	for n := first; n < end; n++ {
		l = append(l, number(n))
	}
	return l
}

func push(t *testing.T, q *msg.Queue, l ...api.Msg) {
	t.Helper()
	for _, m := range l {
		if e := q.Push(m); e != api.OK {
			t.Fatalf("Push(%+v): %d", m, e)
		}
	}
}

// pop takes the first message out, which is to be want.
func pop(t *testing.T, q *msg.Queue, want api.Msg) {
	t.Helper()
	if m, ok := q.Pop(); m != want || !ok {
		t.Errorf("Pop: %+v, %v; want %+v", m, ok, want)
	}
}

// checkQueue holds Head, Len and All against want.
func checkQueue(t *testing.T, q *msg.Queue, what string, want ...api.Msg) {
	t.Helper()
	if got := q.Len(); got != len(want) {
		t.Errorf("%s: Len %d; want %d", what, got, len(want))
	}
	if got := q.All(); !slices.Equal(got, want) {
		t.Errorf("%s: All %+v; want %+v", what, got, want)
	}
	var first api.Msg
	if len(want) > 0 {
		first = want[0]
	}
	if m, ok := q.Head(); m != first || ok != (len(want) > 0) {
		t.Errorf("%s: Head %+v, %v; want %+v", what, m, ok, first)
	}
}

// checkEmpty holds that there is nothing to tell or to pop.
func checkEmpty(t *testing.T, q *msg.Queue, what string) {
	t.Helper()
	for range 2 {
		checkQueue(t, q, what)
		if m, ok := q.Pop(); m != (api.Msg{}) || ok {
			t.Errorf("%s: Pop %+v, %v; want none", what, m, ok)
		}
	}
}

// noForms are messages that no queue takes.
func noForms() []api.Msg {
	x := api.Line{3: 5}
	l := []api.Msg{
		{},
		{Kind: api.GetS, Line: 3, Dirty: true},
		{Kind: api.GetM, Data: x},
		{Kind: api.Put, Data: x},
		{Kind: api.Put, Kept: true},
		{Kind: api.InvAck, Dirty: true, Kept: true},
		{Kind: api.DnAck, Kept: true, Data: x},
		{Kind: api.DataM, Dirty: true, Data: x},
		{Kind: api.Done, Data: x},
	}
	for _, kind := range noKinds {
		l = append(l, api.Msg{Kind: kind, Line: 3})
	}
	for _, line := range noLines {
		l = append(l, api.Msg{Kind: api.GetS, Line: line})
	}
	return l
}

// P6.2: a queue that is zero is empty, however it was made.
func TestZeroIsEmpty(t *testing.T) {
	var zero msg.Queue
	for _, q := range []*msg.Queue{&zero, new(msg.Queue), {}} {
		checkEmpty(t, q, "zero")
		q.Clear()
		checkEmpty(t, q, "cleared")
		push(t, q, number(1), number(2))
		checkQueue(t, q, "pushed", number(1), number(2))
		*q = msg.Queue{}
		checkEmpty(t, q, "zero again")
	}
}

// P6.2: of nil there is nothing to tell, and nothing is done.
func TestNil(t *testing.T) {
	var q *msg.Queue
	for _, m := range append(noForms(), numbers(0, 3)...) {
		if e := q.Push(m); e != api.ErrArg {
			t.Errorf("Push(%+v) of nil: %d; want ErrArg", m, e)
		}
		q.Clear()
		checkEmpty(t, q, "nil")
	}
}

// P6.2: each form is taken, and told whole.
func TestPushEveryForm(t *testing.T) {
	for kind, good := range forms() {
		for _, line := range []int{0, 1, 62, 63} {
			for _, letters := range good {
				q := &msg.Queue{}
				m := of(kind, line, letters, api.Line{1 << 63, 2, 3, 4, 5, 6, 7, 8})
				push(t, q, m, number(1))
				checkQueue(t, q, "pushed", m, number(1))
				pop(t, q, m)
				pop(t, q, number(1))
				checkEmpty(t, q, "popped")
			}
		}
	}
}

// P6.2: what has no form is not taken and changes nothing; of a full queue too this is what is told.
func TestPushNoForm(t *testing.T) {
	q := &msg.Queue{}
	for _, many := range []int{0, 1, most - 1, most} {
		push(t, q, numbers(q.Len(), many)...)
		for _, m := range noForms() {
			if e := q.Push(m); e != api.ErrForm {
				t.Errorf("Push(%+v) behind %d: %d; want ErrForm", m, many, e)
			}
		}
		checkQueue(t, q, "behind wrong forms", numbers(0, many)...)
	}
}

// P6.2: a thousand fit, and no more, of whatever kind; with each one that is gone there is room for one.
func TestFull(t *testing.T) {
	q := &msg.Queue{}
	for n := range most {
		push(t, q, number(n))
		if q.Len() != n+1 {
			t.Fatalf("Len %d; want %d", q.Len(), n+1)
		}
	}
	for kind := range forms() {
		if e := q.Push(api.Msg{Kind: kind}); e != api.ErrFull {
			t.Errorf("Push of kind %d, one more: %d; want ErrFull", kind, e)
		}
	}
	checkQueue(t, q, "full", numbers(0, most)...)
	for n := range 3 {
		pop(t, q, number(n))
	}
	push(t, q, numbers(most, most+3)...)
	if e := q.Push(number(7)); e != api.ErrFull {
		t.Errorf("Push of one more again: %d; want ErrFull", e)
	}
	checkQueue(t, q, "full again", numbers(3, most+3)...)
	q.Clear()
	checkEmpty(t, q, "cleared")
	push(t, q, numbers(0, most)...)
	if e := q.Push(number(7)); e != api.ErrFull {
		t.Errorf("Push of one more behind Clear: %d; want ErrFull", e)
	}
}

// P6.2: Head takes nothing out, Pop the first one alone.
func TestHeadAndPop(t *testing.T) {
	q := &msg.Queue{}
	push(t, q, numbers(0, 5)...)
	for n := range 5 {
		for range 3 {
			checkQueue(t, q, "pushed", numbers(n, 5)...)
		}
		pop(t, q, number(n))
	}
	checkEmpty(t, q, "popped")
	push(t, q, number(9))
	checkQueue(t, q, "pushed again", number(9))
}

// P6.2: two messages that are alike are two.
func TestAlike(t *testing.T) {
	q := &msg.Queue{}
	push(t, q, number(4), number(4), number(5), number(4))
	checkQueue(t, q, "pushed", number(4), number(4), number(5), number(4))
	pop(t, q, number(4))
	checkQueue(t, q, "popped", number(4), number(5), number(4))
}

// P6.2: Clear leaves none, however many there were, and nothing of them comes back.
func TestClear(t *testing.T) {
	for _, many := range []int{0, 1, 2, 7, 8, 9, most} {
		for _, gone := range []int{0, many / 2, many} {
			q := &msg.Queue{}
			push(t, q, numbers(0, many)...)
			for n := range gone {
				pop(t, q, number(n))
			}
			q.Clear()
			checkEmpty(t, q, "cleared")
			push(t, q, numbers(50, 53)...)
			checkQueue(t, q, "pushed again", numbers(50, 53)...)
		}
	}
}

// P6.2: what All tells is new memory, its spare room too; it stays as it was.
func TestAllIsNew(t *testing.T) {
	q := &msg.Queue{}
	push(t, q, numbers(0, 5)...)
	pop(t, q, number(0))
	one, two := q.All(), q.All()
	one = one[:cap(one)]
	for i := range one {
		one[i] = number(77)
	}
	checkQueue(t, q, "behind a changed answer", numbers(1, 5)...)
	push(t, q, numbers(5, 9)...)
	pop(t, q, number(1))
	q.Clear()
	push(t, q, numbers(20, 30)...)
	if want := numbers(1, 5); !slices.Equal(two, want) {
		t.Errorf("an answer became %+v; want %+v", two, want)
	}
	if slices.Contains(two[:cap(two)], number(77)) {
		t.Error("two answers share their spare room")
	}
	checkQueue(t, q, "pushed again", numbers(20, 30)...)
}

// Two queues share nothing.
func TestQueuesAreApart(t *testing.T) {
	one, two := &msg.Queue{}, &msg.Queue{}
	push(t, one, numbers(0, 3)...)
	checkEmpty(t, two, "the other one")
	push(t, two, numbers(10, 12)...)
	pop(t, one, number(0))
	checkQueue(t, one, "one", numbers(1, 3)...)
	checkQueue(t, two, "two", numbers(10, 12)...)
	one.Clear()
	checkQueue(t, two, "two", numbers(10, 12)...)
}

// P6.3: however many stand in the queue while messages come and go, the one that came first goes first.
func TestFirstInFirstOut(t *testing.T) {
	for _, many := range []int{1, 2, 3, 4, 5, 8, 9, 100, most} {
		q := &msg.Queue{}
		push(t, q, numbers(0, many)...)
		for n := range 3 * most {
			pop(t, q, number(n))
			push(t, q, number(n+many))
		}
		checkQueue(t, q, "gone round", numbers(3*most, 3*most+many)...)
	}
}

// P6.2 and P6.3: a long walk, up to a full queue and down to an empty one, beside the numbers of what came and went.
func TestWalk(t *testing.T) {
	q := &msg.Queue{}
	first, end := 0, 0
	full, empty := 0, 0
	n := uint64(1)
	for step := range 60000 {
		n = n*6364136223846793005 + 1442695040888963407
		likely := 3
		if step/5000%2 == 1 { // now more go than come
			likely = 1
		}
		if int(n>>33%4) < likely {
			want := api.OK
			if end-first == most {
				want = api.ErrFull
				full++
			}
			if e := q.Push(number(end)); e != want {
				t.Fatalf("step %d: Push: %d; want %d", step, e, want)
			}
			if want == api.OK {
				end++
			}
		} else if m, ok := q.Pop(); first == end {
			empty++
			if m != (api.Msg{}) || ok {
				t.Fatalf("step %d: Pop %+v, %v; want none", step, m, ok)
			}
		} else if m != number(first) || !ok {
			t.Fatalf("step %d: Pop %+v, %v; want %+v", step, m, ok, number(first))
		} else {
			first++
		}
		if q.Len() != end-first {
			t.Fatalf("step %d: Len %d; want %d", step, q.Len(), end-first)
		}
		if step%500 == 0 {
			checkQueue(t, q, "on the walk", numbers(first, end)...)
		}
	}
	if full == 0 || empty == 0 {
		t.Errorf("the walk found the queue full %d times, empty %d times; want both", full, empty)
	}
}
