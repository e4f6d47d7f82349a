package agent

import (
	"testing"

	"bellows/api"
	"bellows/msg"
)

// Ways: what a message does to a state stands in an array of arrays: a row for each kind that a core is told, and no other, a place for each state.
func TestTable(t *testing.T) {
	for kind, row := range becomes {
		fits := 0
		for state, next := range row {
			if next < unfit || next > stays {
				t.Errorf("kind %d, state %d: %d", kind, state, next)
			}
			if next != unfit {
				fits++
			}
		}
		if (fits > 0) != msg.Tells(kind) {
			t.Errorf("kind %d: %d states; told %v", kind, fits, msg.Tells(kind))
		}
	}
}

// Ways: Hear does what the table says, in each state, to which Set brings the slot.
func TestHearByTable(t *testing.T) {
	for kind := api.DataS; kind <= api.Done; kind++ {
		for state := api.Inv; state <= api.Dirty; state++ {
			a, _ := New(1, 1)
			a.lines.Set(5, state, api.Line{})
			_, e := a.Hear(api.Msg{Kind: kind, Line: 5})
			s, _ := a.lines.Find(5)
			want, wantErr := becomes[kind][state], api.OK
			switch want {
			case unfit:
				want, wantErr = state, api.ErrState
			case leaves:
				want = api.Inv
			case stays:
				want = state
			}
			if e != wantErr || s.State != want {
				t.Errorf("kind %d, state %d: %d, %d; want %d, %d", kind, state, s.State, e, want, wantErr)
			}
		}
	}
}

// That what the table has beside states is no state is what Hear leans on.
func TestNoStates(t *testing.T) {
	for _, n := range []int{unfit, leaves, stays} {
		if n >= api.Shd && n <= api.Dirty {
			t.Errorf("%d is a line's state", n)
		}
	}
}
