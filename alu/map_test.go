package alu

import (
	"testing"

	"bellows/api"
)

// Ways: what operations do stands in a map of functions: what reckons and what jumps is there, each with its one function, and nothing else; Do and Goes do what that one does.
func TestMap(t *testing.T) {
	table := operations()
	if len(table) != 10 {
		t.Errorf("%d operations stand in the map; want 10", len(table))
	}
	for op := api.Nop; op <= api.Halt; op++ {
		has := table[op]
		reckons := op >= api.Add && op <= api.Shr
		jumps := op >= api.Jmp && op <= api.Blt
		if (has.reckons != nil) != reckons || (has.goes != nil) != jumps {
			t.Errorf("operation %d has a function that reckons: %v, one that jumps: %v", op, has.reckons != nil, has.goes != nil)
			continue
		}
		if reckons {
			if got, ok := Do(op, 13, 3); got != has.reckons(13, 3) || !ok {
				t.Errorf("Do(%d, 13, 3): %d, %v; the map says %d", op, got, ok, has.reckons(13, 3))
			}
		}
		if jumps {
			if got, ok := Goes(op, 13, 3); got != has.goes(13, 3) || !ok {
				t.Errorf("Goes(%d, 13, 3): %v, %v; the map says %v", op, got, ok, has.goes(13, 3))
			}
		}
	}
}

// Each call has a map of its own: what becomes of one is not seen in another.
func TestMapIsNew(t *testing.T) {
	clear(operations())
	if got, ok := Do(api.Add, 5, 7); got != 12 || !ok {
		t.Errorf("Do(Add, 5, 7): %d, %v", got, ok)
	}
}
