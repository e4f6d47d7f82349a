package isa

import (
	"strconv"
	"testing"

	"bellows/api"
)

// Ways: what each operation has stands in a table, made by the first Has, even where that is of the last operation.
func TestTable(t *testing.T) {
	Has(api.Halt)
	for op, got := range letters {
		if want := lettersOf(partsOf(op)); got != want {
			t.Errorf("the table has %q of %d; want %q", got, op, want)
		}
	}
}

// withTable puts other letters into the table while f runs.
func withTable(f func()) {
	Has(api.Nop)
	was := letters
	defer func() { letters = was }()
	for op := range letters {
		letters[op] = "x" + strconv.Itoa(op)
	}
	f()
}

// Ways: the table is made once, and Has reads it.
func TestTableIsMadeOnce(t *testing.T) {
	withTable(func() {
		for op := range letters {
			if got, want := Has(op), "x"+strconv.Itoa(op); got != want {
				t.Errorf("Has(%d): %q; want the table's %q", op, got, want)
			}
		}
	})
}

// Ways: forms and words are worked out without the table, whatever the table has; so it is for the layers that call them.
func TestFormsWithoutTable(t *testing.T) {
	withTable(func() {
		for op := range letters {
			i := api.Ins{Op: op}
			if !Good(i) {
				t.Errorf("Good(%v): false", i)
			}
			if u, err := Encode(i); u != uint64(op) || err != api.OK {
				t.Errorf("Encode(%v): %x, %d", i, u, err)
			}
			if d, err := Decode(uint64(op)); d != i || err != api.OK {
				t.Errorf("Decode(%x): %v, %d", op, d, err)
			}
		}
	})
}
