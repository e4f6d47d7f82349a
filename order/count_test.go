package order

import (
	"testing"

	"bellows/api"
)

// Ways: results are counted, each kind for itself, and only those that there were: nothing is counted behind an event that is not allowed, nor without a bus.
func TestCounts(t *testing.T) {
	c := api.Config{Cores: 1, Lines: 2, Volatile: 1, Sets: 1, Ways: 1, Queue: 1, Store: 1}
	good, bad := api.Event{Kind: api.EvTell}, api.Event{Kind: api.EvLoad, Line: 1, Val: 1}
	for _, x := range []struct {
		c                api.Config
		l                []api.Event
		allowed, refused int64
	}{
		{c, nil, 0, 0},
		{c, []api.Event{good}, 1, 0},
		{c, []api.Event{good, good, good}, 3, 0},
		{c, []api.Event{bad}, 0, 1},
		{c, []api.Event{good, good, bad}, 2, 1},
		{c, []api.Event{good, bad, good, bad, bad}, 1, 1},
		{api.Config{}, []api.Event{good, bad}, 0, 0},
	} {
		for range 2 { // each call counts for itself
			trial, e := trialOf(x.c, nil, x.l)
			if n, no := trial.results.allowed.Load(), trial.results.refused.Load(); n != x.allowed || no != x.refused {
				t.Errorf("%+v: %d allowed, %d refused; want %d, %d", x.l, n, no, x.allowed, x.refused)
			}
			if at, err := Check(x.c, nil, x.l); int64(at) != x.allowed || err != e || (err == api.ErrState) != (x.refused > 0) {
				t.Errorf("%+v: %d, %d; want %d", x.l, at, err, x.allowed)
			}
		}
	}
}
