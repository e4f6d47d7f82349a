package bus

import (
	"testing"

	"bellows/api"
)

// Ways: what a kind does stands in a map of method expressions: all kinds that there are, and nothing else; each bus has it, and Do does what it says.
func TestKinds(t *testing.T) {
	c := api.Config{Cores: 1, Lines: 2, Volatile: 1, Sets: 1, Ways: 1, Queue: 1, Store: 1}
	b, e := New(c, nil)
	if e != api.OK {
		t.Fatalf("New: %d", e)
	}
	if len(b.kinds) != 14 || len(kinds()) != 14 {
		t.Errorf("%d kinds, %d in a bus; want 14", len(kinds()), len(b.kinds))
	}
	for kind := api.EvLoad; kind <= api.EvWant; kind++ {
		if b.kinds[kind] == nil {
			t.Errorf("kind %d does nothing", kind)
			continue
		}
		done := 0
		b.kinds[kind] = func(b *Bus, e api.Event) bool {
			done += e.Kind
			return e.Val == 5
		}
		if b.Do(api.Event{Kind: kind}) || !b.Do(api.Event{Kind: kind, Val: 5}) || done != 2*kind {
			t.Errorf("kind %d: Do does not do what the map has", kind)
		}
	}
	clear(b.kinds)
	if other, _ := New(c, nil); len(other.kinds) != 14 {
		t.Errorf("another bus has %d kinds; want a map of its own", len(other.kinds))
	}
}
