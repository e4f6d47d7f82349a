package dir

import (
	"testing"

	"bellows/api"
	"bellows/geom"
	"bellows/msg"
)

// Ways: what a kind does is told by a list: it has a deed for each kind that is asked, and no other; Ask does what that one does.
func TestList(t *testing.T) {
	list := deeds()
	for kind := range list {
		if has := list[kind] != nil; has != msg.Asks(kind) {
			t.Errorf("kind %d: a deed %v; asked %v", kind, has, msg.Asks(kind))
		}
	}
	for kind := api.GetS; kind <= api.Wipe; kind++ {
		m := api.Msg{Kind: kind, Line: 5}
		for owner := nobody; owner < api.MaxCores; owner++ {
			e := Entry{Here: true, Data: api.Line{7}, Owner: owner}
			want, wantSends := list[kind](e, 3, m)
			got, sends, err := Ask(e, 3, m)
			if err != api.OK || got != want || len(sends) != len(wantSends) {
				t.Errorf("Ask(%+v, 3, %+v): %+v, %+v, %d; the list says %+v, %+v", e, m, got, sends, err, want, wantSends)
			}
		}
	}
}

// That nobody is a core without a bit is what masks of holders lean on.
func TestNobodyHasNoBit(t *testing.T) {
	if geom.Bit(nobody) != 0 || Empty().holders() != 0 {
		t.Error("nobody has a bit")
	}
}
