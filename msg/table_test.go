package msg

import (
	"testing"

	"bellows/api"
)

// Ways: what a kind may have stands in an array: a row for each kind, and what Good says of the kind is what its row says.
func TestTable(t *testing.T) {
	if len(mayHave) != api.Done+1 {
		t.Fatalf("%d rows; want %d", len(mayHave), api.Done+1)
	}
	x := api.Line{5}
	for kind := api.GetS; kind <= api.Done; kind++ {
		row := mayHave[kind]
		for _, c := range []struct {
			m    api.Msg
			want bool
		}{
			{api.Msg{Kind: kind, Dirty: true, Data: x}, row.dirty},
			{api.Msg{Kind: kind, Kept: true}, row.kept},
			{api.Msg{Kind: kind, Data: x}, row.words},
		} {
			if got := Good(c.m); got != c.want {
				t.Errorf("Good(%+v): %v; its row is %+v", c.m, got, row)
			}
		}
	}
}
