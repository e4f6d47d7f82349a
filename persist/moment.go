package persist

import (
	"bellows/api"
	"bellows/word"
)

// isStore tells whether the event is a store of the line.
func isStore(e api.Event, line int) bool {
	return e.Kind == api.EvStore && e.Line == line
}

// isPush tells whether the event is a push of the line.
func isPush(e api.Event, line int) bool {
	return e.Kind == api.EvPush && e.Line == line
}

// stores tells how many stores of the line there are: the last moment's number, too, as each store makes one more.
func stores(l []api.Event, line int) int {
	n := 0
	for _, e := range l {
		if isStore(e, line) {
			n++
		}
	}
	return n
}

// pushed tells how many events stand ahead of the last push of the line; 0, if there was none.
func pushed(l []api.Event, line int) int {
	for at := len(l) - 1; at >= 0; at-- {
		if isPush(l[at], line) {
			return at
		}
	}
	return 0
}

// behind tells the line's words behind a store of it; a store of a word that there is not leaves them.
func behind(now api.Line, store api.Event) api.Line {
	return word.Put(now, store.Word, store.Val)
}

// last tells the line's words behind all events. It makes no history, so that a long list needs no more room than a short one.
func last(first api.Line, l []api.Event, line int) api.Line {
	now := first
	for _, e := range l {
		if isStore(e, line) {
			now = behind(now, e)
		}
	}
	return now
}
