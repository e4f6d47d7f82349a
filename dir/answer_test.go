package dir_test

import (
	"testing"

	"bellows/api"
	"bellows/dir"
)

// P7.3: what each answer does to each kind that is on its way: the last one, and one ahead of it.
func TestAnswerExamples(t *testing.T) {
	ack, ackDirty := api.Msg{Kind: api.InvAck, Line: line}, api.Msg{Kind: api.InvAck, Line: line, Dirty: true, Data: newer}
	gone, goneDirty := api.Msg{Kind: api.DnAck, Line: line}, api.Msg{Kind: api.DnAck, Line: line, Dirty: true, Data: newer}
	kept, keptDirty := api.Msg{Kind: api.DnAck, Line: line, Kept: true}, api.Msg{Kind: api.DnAck, Line: line, Kept: true, Dirty: true, Data: newer}
	written := func(e dir.Entry) dir.Entry {
		e.Dirty, e.Data = true, newer
		return e
	}
	for _, c := range []struct {
		e     dir.Entry
		core  int
		m     api.Msg
		want  dir.Entry
		sends []dir.Send
	}{
		{busy(here(3, 0), api.GetS, 0, 8), 3, kept, here(-1, 9), []dir.Send{sendWords(0, api.DataS, old)}},
		{busy(here(3, 0), api.GetS, 0, 8), 3, keptDirty, written(here(-1, 9)), []dir.Send{sendWords(0, api.DataS, newer)}},
		{busy(here(3, 0), api.GetS, 7, 8), 3, gone, here(-1, 128), []dir.Send{sendWords(7, api.DataS, old)}},
		{busy(here(3, 0), api.GetS, 7, 8), 3, goneDirty, written(here(-1, 128)), []dir.Send{sendWords(7, api.DataS, newer)}},
		{busy(here(3, 0), api.GetS, 7, 8), 3, ackDirty, written(here(-1, 128)), []dir.Send{sendWords(7, api.DataS, newer)}},

		{busy(here(5, 0), api.GetM, 1, 32), 5, ack, here(1, 0), []dir.Send{sendWords(1, api.DataM, old)}},
		{busy(here(5, 0), api.GetM, 1, 32), 5, ackDirty, written(here(1, 0)), []dir.Send{sendWords(1, api.DataM, newer)}},
		{busy(here(-1, 0x31), api.GetM, 0, 0x30), 4, ack, busy(here(-1, 0x21), api.GetM, 0, 0x20), nil},
		{busy(here(-1, 0x21), api.GetM, 0, 0x20), 5, ack, here(0, 0), []dir.Send{sendWords(0, api.DataM, old)}},
		{busy(here(-1, 0x20), api.GetM, 0, 0x20), 5, kept, here(0, 0), []dir.Send{sendWords(0, api.DataM, old)}},

		{busy(here(6, 0), api.Clean, 6, 64), 6, kept, busy(here(-1, 64), api.Clean, 6, 0), nil},
		{busy(here(6, 0), api.Clean, 2, 64), 6, keptDirty, busy(written(here(-1, 64)), api.Clean, 2, 0), nil},
		{busy(here(6, 0), api.Clean, 2, 64), 6, gone, busy(here(-1, 0), api.Clean, 2, 0), nil},
		{busy(here(6, 0), api.Clean, 2, 64), 6, goneDirty, busy(written(here(-1, 0)), api.Clean, 2, 0), nil},

		{busy(here(6, 0), api.Wipe, 2, 64), 6, ack, busy(here(-1, 0), api.Wipe, 2, 0), nil},
		{busy(here(6, 0), api.Wipe, 2, 64), 6, ackDirty, busy(written(here(-1, 0)), api.Wipe, 2, 0), nil},
		{busy(here(-1, 7), api.Wipe, 2, 7), 1, ack, busy(here(-1, 5), api.Wipe, 2, 5), nil},
		{busy(here(-1, 7), api.Wipe, 2, 6), 1, kept, busy(here(-1, 7), api.Wipe, 2, 4), nil},
		{busy(here(-1, 1), api.Wipe, 2, 1), 0, ack, busy(here(-1, 0), api.Wipe, 2, 0), nil},
	} {
		e, sends, err := dir.Answer(c.e, c.core, c.m)
		checkStep(t, call{"Answer", c.e, c.core, c.m}, e, sends, err, c.want, c.sends)
	}
}

// P7.3: each answer of each core, to good entries of all kinds, of several lines, beside a plain entry; who is not waited for can't answer.
func TestAnswerAll(t *testing.T) {
	entries := waiting()
	for i, e := range entries {
		about := []int{0, 1, 40, 63}[i%4]
		for core := range 8 {
			for _, m := range replies(about) {
				got, sends, err := dir.Answer(e, core, m)
				what := call{"Answer", e, core, m}
				p := plainOf(e, about)
				if !p.wait[core] {
					checkNone(t, what, got, sends, err, api.ErrState)
					continue
				}
				p.answer(core, m)
				checkStep(t, what, got, sends, err, p.entry(), p.sends)
			}
		}
		if t.Failed() {
			return
		}
	}
}

// P7.3: where nothing is on its way there is nothing to answer, whoever has the line.
func TestAnswerNotBusy(t *testing.T) {
	for _, e := range append(quiet(), dir.Empty()) {
		for core := range 8 {
			for _, m := range replies(line) {
				got, sends, err := dir.Answer(e, core, m)
				checkNone(t, call{"Answer", e, core, m}, got, sends, err, api.ErrState)
			}
		}
	}
}

// P7.3: wrong entries, cores and messages are told ahead of all else, alone and together.
func TestAnswerWrong(t *testing.T) {
	entries := []dir.Entry{busy(here(3, 0), api.GetS, 1, 8), busy(here(-1, 0xff), api.Wipe, 1, 0xff), busy(here(-1, 0), api.Clean, 1, 0), here(-1, 0), here(3, 0), dir.Empty()}
	messages := append(append(append([]api.Msg{}, noMessages...), told...), requests(line)...)
	for _, e := range entries {
		for _, core := range noCores {
			for _, m := range append(replies(line), messages...) {
				got, sends, err := dir.Answer(e, core, m)
				checkNone(t, call{"Answer", e, core, m}, got, sends, err, api.ErrArg)
			}
		}
		for core := range 8 {
			for _, m := range messages {
				got, sends, err := dir.Answer(e, core, m)
				checkNone(t, call{"Answer", e, core, m}, got, sends, err, api.ErrArg)
			}
		}
	}
	for _, e := range bad {
		for core := range 8 {
			for _, m := range append(replies(line), messages...) {
				got, sends, err := dir.Answer(e, core, m)
				checkNone(t, call{"Answer", e, core, m}, got, sends, err, api.ErrArg)
			}
		}
	}
}

// P7.4: a flush that is ready is over; the words, and who has the line, are as they were, the line is not Dirty, and the core that asked is told Done of line 0.
func TestPushed(t *testing.T) {
	ready := 0
	for _, e := range waiting() {
		got, sends, err := dir.Pushed(e)
		what := call{name: "Pushed", e: e}
		if e.Busy == api.GetS || e.Busy == api.GetM || e.Wait != 0 {
			checkNone(t, what, got, sends, err, api.ErrState)
			continue
		}
		ready++
		want := dir.Entry{Here: true, Data: old, Owner: e.Owner, Share: e.Share}
		checkStep(t, what, got, sends, err, want, []dir.Send{{To: e.By, M: api.Msg{Kind: 14}}})
	}
	if ready == 0 {
		t.Error("no entry was ready")
	}
}

// P7.4: what is not busy, not here or not good is not pushed.
func TestPushedWrong(t *testing.T) {
	for _, e := range append(append(quiet(), dir.Empty()), bad...) {
		got, sends, err := dir.Pushed(e)
		checkNone(t, call{name: "Pushed", e: e}, got, sends, err, api.ErrState)
	}
}
