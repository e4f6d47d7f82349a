package geom

import (
	"math/bits"
	"testing"
)

// Ways: what four bits count stands in a table.
func TestTable(t *testing.T) {
	Count(0)
	for n, got := range fourCounts {
		if want := bits.OnesCount(uint(n)); got != want {
			t.Errorf("the table has %d of %d; want %d", got, n, want)
		}
	}
}

// Ways: the table is made once, and Count reads both fours of a mask from it.
func TestTableIsMadeOnce(t *testing.T) {
	Count(0)
	was := fourCounts
	defer func() { fourCounts = was }()
	for n := range fourCounts {
		fourCounts[n] = 100 * n
	}
	for m := range 256 {
		if got, want := Count(uint8(m)), 100*(m%16+m/16); got != want {
			t.Errorf("Count(%d): %d; want the table's %d", m, got, want)
		}
	}
}

// Ways: what tells of cores alone is worked out without the table, whatever the table has; so it is for the layers that call it.
func TestCoresWithoutTable(t *testing.T) {
	Count(0)
	was := fourCounts
	defer func() { fourCounts = was }()
	for n := range fourCounts {
		fourCounts[n] = -1
	}
	for m := range 256 {
		mask := uint8(m)
		cores := Cores(mask)
		if want := bits.OnesCount8(mask); len(cores) != want {
			t.Errorf("Cores(%d): %v; want %d", mask, cores, want)
		}
		for _, core := range cores {
			if !Has(mask, core) {
				t.Errorf("Cores(%d): %v, and %d is not in it", mask, cores, core)
			}
		}
		if first := First(mask); m != 0 && first != cores[0] || m == 0 && first != -1 {
			t.Errorf("First(%d): %d", mask, first)
		}
	}
}
