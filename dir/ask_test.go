package dir_test

import (
	"testing"

	"bellows/api"
	"bellows/dir"
)

// bad are entries that are not good: one for each rule at least.
var bad = []dir.Entry{
	{}, {Owner: -2}, here(-2, 0), here(8, 0), {Owner: 3}, {Owner: -1, Share: 4}, here(2, 4), here(2, 2),
	{Owner: -1, Dirty: true}, {Owner: -1, Data: old},
	{Owner: -1, Busy: api.Clean}, {Owner: -1, By: 1}, {Owner: -1, Wait: 1}, busy(here(2, 0), 0, 0, 4), busy(here(2, 0), 0, 1, 0),
	busy(here(-1, 3), api.Put, 1, 1), busy(here(-1, 3), api.Wipe, 8, 1), busy(here(-1, 3), api.Wipe, -1, 1), busy(here(-1, 3), api.Wipe, 1, 5),
	busy(here(-1, 3), api.GetM, 1, 0), busy(here(2, 0), api.GetS, 1, 0),
	busy(here(-1, 3), api.Put, 1, 0), busy(here(-1, 3), api.Wipe, 8, 0), busy(here(-1, 3), api.Clean, -1, 0), busy(here(2, 1), api.Clean, 1, 0),
}

// P7.2: what each kind does, with nobody, with Owners and readers, core among them and not.
func TestAskExamples(t *testing.T) {
	get, own, put, clean, wipe := api.Msg{Kind: api.GetS, Line: line}, api.Msg{Kind: api.GetM, Line: line}, api.Msg{Kind: api.Put, Line: line}, api.Msg{Kind: api.Clean, Line: line}, api.Msg{Kind: api.Wipe, Line: line}
	for _, c := range []struct {
		e     dir.Entry
		core  int
		m     api.Msg
		want  dir.Entry
		sends []dir.Send
	}{
		{here(-1, 0), 2, get, here(2, 0), []dir.Send{sendWords(2, api.DataE, old)}},
		{here(2, 0), 2, get, here(2, 0), []dir.Send{sendWords(2, api.DataE, old)}},
		{here(0, 0), 7, get, busy(here(0, 0), api.GetS, 7, 1), []dir.Send{send(0, api.Down)}},
		{here(7, 0), 0, get, busy(here(7, 0), api.GetS, 0, 128), []dir.Send{send(7, api.Down)}},
		{here(-1, 1), 7, get, here(-1, 129), []dir.Send{sendWords(7, api.DataS, old)}},
		{here(-1, 128), 7, get, here(-1, 128), []dir.Send{sendWords(7, api.DataS, old)}},

		{here(-1, 0), 0, own, here(0, 0), []dir.Send{sendWords(0, api.DataM, old)}},
		{here(0, 0), 0, own, here(0, 0), []dir.Send{sendWords(0, api.DataM, old)}},
		{here(-1, 1), 0, own, here(0, 0), []dir.Send{sendWords(0, api.DataM, old)}},
		{here(1, 0), 0, own, busy(here(1, 0), api.GetM, 0, 2), []dir.Send{send(1, api.Invl)}},
		{here(-1, 0x85), 0, own, busy(here(-1, 0x85), api.GetM, 0, 0x84), []dir.Send{send(2, api.Invl), send(7, api.Invl)}},
		{here(-1, 0x85), 3, own, busy(here(-1, 0x85), api.GetM, 3, 0x85), []dir.Send{send(0, api.Invl), send(2, api.Invl), send(7, api.Invl)}},

		{here(5, 0), 5, put, here(-1, 0), []dir.Send{send(5, api.PutAck)}},
		{here(5, 0), 4, put, here(5, 0), []dir.Send{send(4, api.PutAck)}},
		{here(-1, 0x30), 5, put, here(-1, 0x10), []dir.Send{send(5, api.PutAck)}},
		{here(-1, 0x20), 5, put, here(-1, 0), []dir.Send{send(5, api.PutAck)}},
		{here(-1, 0x10), 5, put, here(-1, 0x10), []dir.Send{send(5, api.PutAck)}},
		{here(-1, 0), 5, put, here(-1, 0), []dir.Send{send(5, api.PutAck)}},

		{here(-1, 0), 6, clean, busy(here(-1, 0), api.Clean, 6, 0), nil},
		{here(-1, 0xff), 6, clean, busy(here(-1, 0xff), api.Clean, 6, 0), nil},
		{here(6, 0), 6, clean, busy(here(6, 0), api.Clean, 6, 64), []dir.Send{send(6, api.Down)}},
		{here(0, 0), 6, clean, busy(here(0, 0), api.Clean, 6, 1), []dir.Send{send(0, api.Down)}},

		{here(-1, 0), 6, wipe, busy(here(-1, 0), api.Wipe, 6, 0), nil},
		{here(6, 0), 6, wipe, busy(here(6, 0), api.Wipe, 6, 64), []dir.Send{send(6, api.Invl)}},
		{here(7, 0), 6, wipe, busy(here(7, 0), api.Wipe, 6, 128), []dir.Send{send(7, api.Invl)}},
		{here(-1, 0x43), 6, wipe, busy(here(-1, 0x43), api.Wipe, 6, 0x43), []dir.Send{send(0, api.Invl), send(1, api.Invl), send(6, api.Invl)}},
		{here(-1, 0x03), 6, wipe, busy(here(-1, 0x03), api.Wipe, 6, 0x03), []dir.Send{send(0, api.Invl), send(1, api.Invl)}},
	} {
		e, sends, err := dir.Ask(c.e, c.core, c.m)
		checkStep(t, call{"Ask", c.e, c.core, c.m}, e, sends, err, c.want, c.sends)
	}
}

// P7.2: a Put's words are the line's, if it is Dirty and of the Owner; what others put is old.
func TestPutDirty(t *testing.T) {
	put := func(e dir.Entry, core int, m api.Msg, words api.Line, dirty bool, owner int) {
		t.Helper()
		got, sends, err := dir.Ask(e, core, m)
		want := e
		want.Data, want.Dirty, want.Owner = words, dirty, owner
		checkStep(t, call{"Ask", e, core, m}, got, sends, err, want, []dir.Send{send(core, api.PutAck)})
	}
	written := here(3, 0)
	written.Dirty = true
	m := api.Msg{Kind: api.Put, Line: line, Dirty: true, Data: newer}
	zeros := api.Msg{Kind: api.Put, Line: line, Dirty: true}
	clean := api.Msg{Kind: api.Put, Line: line}
	put(here(3, 0), 3, m, newer, true, -1)
	put(written, 3, m, newer, true, -1)
	put(here(3, 0), 3, zeros, api.Line{}, true, -1)
	put(here(3, 0), 3, clean, old, false, -1)
	put(written, 3, clean, old, true, -1)
	put(here(3, 0), 4, m, old, false, 3)
	put(written, 4, m, old, true, 3)
	put(here(-1, 0), 3, m, old, false, -1)
	put(here(-1, 2), 3, m, old, false, -1)
}

// P7.2: each request of each core of each good entry with nothing on its way, of several lines, beside a plain entry.
func TestAskAll(t *testing.T) {
	for _, about := range []int{0, 1, 40, 63} {
		for _, e := range quiet() {
			for core := range 8 {
				for _, m := range requests(about) {
					p := plainOf(e, about)
					p.ask(core, m)
					got, sends, err := dir.Ask(e, core, m)
					checkStep(t, call{"Ask", e, core, m}, got, sends, err, p.entry(), p.sends)
				}
			}
			if t.Failed() {
				return
			}
		}
	}
}

// P7.2: a line of which something is on its way takes no request.
func TestAskBusy(t *testing.T) {
	for _, e := range waiting() {
		for core := range 8 {
			for _, m := range requests(line) {
				got, sends, err := dir.Ask(e, core, m)
				checkNone(t, call{"Ask", e, core, m}, got, sends, err, api.ErrBusy)
			}
		}
		if t.Failed() {
			return
		}
	}
}

// P7.2: of a line that is not here nothing can be asked.
func TestAskNotHere(t *testing.T) {
	for core := range 8 {
		for _, m := range requests(line) {
			got, sends, err := dir.Ask(dir.Empty(), core, m)
			checkNone(t, call{"Ask", dir.Empty(), core, m}, got, sends, err, api.ErrState)
		}
	}
}

// P7.2: wrong entries, cores and messages are told ahead of all else, alone and together.
func TestAskWrong(t *testing.T) {
	entries := []dir.Entry{here(-1, 0), here(3, 0), here(-1, 6), busy(here(3, 0), api.GetS, 1, 8), busy(here(-1, 0), api.Clean, 1, 0), dir.Empty()}
	messages := append(append(append([]api.Msg{}, noMessages...), told...), replies(line)...)
	for _, e := range entries {
		for _, core := range noCores {
			for _, m := range append(requests(line), messages...) {
				got, sends, err := dir.Ask(e, core, m)
				checkNone(t, call{"Ask", e, core, m}, got, sends, err, api.ErrArg)
			}
		}
		for core := range 8 {
			for _, m := range messages {
				got, sends, err := dir.Ask(e, core, m)
				checkNone(t, call{"Ask", e, core, m}, got, sends, err, api.ErrArg)
			}
		}
	}
	for _, e := range bad {
		for core := range 8 {
			for _, m := range append(requests(line), messages...) {
				got, sends, err := dir.Ask(e, core, m)
				checkNone(t, call{"Ask", e, core, m}, got, sends, err, api.ErrArg)
			}
		}
	}
}

// What is told is new memory, its spare room too.
func TestSendsAreNew(t *testing.T) {
	for _, kind := range []int{api.GetS, api.GetM, api.Wipe} {
		m := api.Msg{Kind: kind, Line: line}
		_, one, _ := dir.Ask(here(-1, 0x6e), 0, m)
		_, two, _ := dir.Ask(here(-1, 0x6e), 0, m)
		all := one[:cap(one)]
		for i := range all {
			all[i] = dir.Send{To: 77}
		}
		_, three, _ := dir.Ask(here(-1, 0x6e), 0, m)
		for _, l := range [][]dir.Send{two, three} {
			for _, s := range l[:cap(l)] {
				if s.To == 77 {
					t.Errorf("kind %d: an answer changed with another one: %+v", kind, l)
				}
			}
		}
	}
}
