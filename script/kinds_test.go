package script

import (
	"testing"

	"bellows/api"
)

// P16.1: what a kind has stands in the table, and Good goes by it alone.
func TestKindsTable(t *testing.T) {
	if len(kinds) != api.ActFail+1 {
		t.Fatalf("%d rows; want one of each kind, and one of none", len(kinds))
	}
	for n, k := range kinds {
		if none := n == 0; none != (k == kind{}) {
			t.Errorf("kind %d has %+v", n, k)
		}
		for core := -1; core <= api.MaxCores; core++ {
			for line := -1; line <= api.MaxLines; line++ {
				want := core >= 0 && line >= 0 && core < k.cores && line < k.lines
				if Good(api.Act{Kind: n, Core: core, Line: line}) != want {
					t.Fatalf("kind %d, core %d, line %d: %v", n, core, line, !want)
				}
			}
		}
	}
}
