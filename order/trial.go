package order

import (
	"sync/atomic"

	"bellows/api"
	"bellows/bus"
)

// trial is a bus, and what came of the events that it was given.
type trial struct {
	bus     *bus.Bus
	results counts
}

// counts are how many events were allowed, and how many were not.
type counts struct {
	allowed, refused atomic.Int64
}

// trialOf gives a new bus the events, one behind the other, up to the first one that it refuses.
func trialOf(c api.Config, img []api.Line, l []api.Event) (*trial, api.Errno) {
	b, e := bus.New(c, img)
	t := &trial{bus: b}
	if e != api.OK {
		return t, e
	}
	for _, x := range l {
		if !t.do(x) {
			break
		}
	}
	return t, t.verdict()
}

// do gives the bus the event, and counts the result, which it tells.
func (t *trial) do(x api.Event) bool {
	allowed := t.bus.Do(x)
	if allowed {
		t.results.allowed.Add(1)
	} else {
		t.results.refused.Add(1)
	}
	return allowed
}

// verdict is OK, if no event was refused.
func (t *trial) verdict() api.Errno {
	if t.results.refused.Load() > 0 {
		return api.ErrState
	}
	return api.OK
}

// allowed is how many events the bus allowed: the place of the one that it refused, too, as that is the last one it was given.
func (t *trial) allowed() int {
	return int(t.results.allowed.Load())
}
