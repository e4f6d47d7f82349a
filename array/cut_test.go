package array

import (
	"testing"

	"bellows/api"
)

// Ways: the slots of a set are cut by all three bounds: as many as there are ways, and no room behind them.
func TestSetsAreCut(t *testing.T) {
	for _, sets := range []int{1, 2, 4, 8} {
		for ways := 1; ways <= api.MaxWays; ways++ {
			a, e := New(sets, ways)
			if e != api.OK {
				t.Fatalf("New(%d, %d): %d", sets, ways, e)
			}
			for line := range 3 * sets {
				if set := a.set(line); len(set) != ways || cap(set) != ways {
					t.Errorf("%d sets, %d ways, line %d: %d slots, room for %d", sets, ways, line, len(set), cap(set))
				}
			}
		}
	}
}

// Ways: what is cut are the array's own slots, each set's its own.
func TestCutsAreTheSlots(t *testing.T) {
	a, _ := New(4, 3)
	for line := range 4 {
		for way := range 3 {
			a.set(line)[way].Used = 100*line + way
		}
	}
	for i, s := range a.slots {
		if want := 100*(i/3) + i%3; s.Used != want {
			t.Errorf("slot %d has %d; want %d", i, s.Used, want)
		}
	}
}

// Words: of an empty slot all is zero, whatever it had.
func TestEmptySlotsAreZero(t *testing.T) {
	a, _ := New(2, 2)
	for line := range 4 {
		a.Set(line, api.Mod, api.Line{7, 7: 8})
		a.Touch(line)
	}
	for line := range 4 {
		a.Drop(line)
	}
	for i, s := range a.slots {
		if s != (Slot{}) {
			t.Errorf("slot %d has %v", i, s)
		}
	}
}
