package sbuf

import (
	"testing"

	"bellows/api"
)

func number(n int) Entry {
	return Entry{Kind: api.St, Line: n % api.MaxLines, Val: uint64(n) + 1}
}

// checkRing holds that the entries stand one behind the other, round the end of the array, and that nothing is left at the other places.
func checkRing(t *testing.T, b *Buffer, what string, first int, want ...Entry) {
	t.Helper()
	var ring [api.MaxStore]Entry
	for n, e := range want {
		ring[(first+n)%api.MaxStore] = e
	}
	if b.ring != ring {
		t.Errorf("%s: the array has %+v; want %+v", what, b.ring, ring)
	}
}

// Ways: entries stand in an array that goes round: none is moved while others come and go, and of what is gone nothing is left.
func TestRing(t *testing.T) {
	for room := 1; room <= api.MaxStore; room++ {
		b, e := New(room)
		if e != api.OK {
			t.Fatalf("New(%d): %d", room, e)
		}
		var want []Entry
		for n := range 3 * api.MaxStore {
			if len(want) == room {
				b.Pop()
				want = want[1:]
			}
			if e := b.Push(number(n)); e != api.OK {
				t.Fatalf("Push of number %d: %d", n, e)
			}
			want = append(want, number(n))
			checkRing(t, b, "pushed", n+1-len(want), want...)
		}
		b.Clear()
		checkRing(t, b, "cleared", 0)
	}
}
