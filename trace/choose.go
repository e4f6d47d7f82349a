package trace

import "bellows/api"

// choose tells, in order, what is asked of those events that are wanted. Some calls ask for whole events and some for their values alone, so what is asked may be of any type.
func choose[T any](l []api.Event, wanted func(api.Event) bool, asked func(api.Event) T) []T {
	var out []T
	for _, e := range l {
		if wanted(e) {
			out = append(out, asked(e))
		}
	}
	return out
}

// whole tells the event itself.
func whole(e api.Event) api.Event { return e }

// val tells the event's value.
func val(e api.Event) uint64 { return e.Val }
