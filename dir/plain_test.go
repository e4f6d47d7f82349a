package dir_test

import (
	"math"
	"slices"
	"testing"

	"bellows/api"
	"bellows/dir"
)

// line is the line that messages are about, where it does not matter which one.
const line = 9

// old and newer are words of a line, none of which is 0.
var (
	old   = api.Line{1, 2, 3, 4, 5, 6, 7, 8}
	newer = api.Line{1 << 63, 22, 33, 44, 55, 66, 77, 88}
)

// noCores are numbers of no core; some come to good ones where bits are lost.
var noCores = []int{math.MinInt, math.MinInt + 1, -1 << 32, -1<<32 + 2, -256, -255, -8, -7, -2, -1, 8, 9, 15, 16, 64, 255, 256, 257, 1 << 32, 1<<32 + 1, math.MaxInt - 1, math.MaxInt}

// noMessages have no message's form.
var noMessages = []api.Msg{
	{},
	{Kind: -1, Line: line}, {Kind: 15, Line: line}, {Kind: 256 + api.GetS, Line: line}, {Kind: 1<<32 + api.InvAck, Line: line},
	{Kind: math.MinInt}, {Kind: math.MaxInt},
	{Kind: api.GetS, Line: -1}, {Kind: api.GetM, Line: 64}, {Kind: api.Clean, Line: 1 << 32}, {Kind: api.InvAck, Line: math.MinInt}, {Kind: api.DnAck, Line: math.MaxInt},
	{Kind: api.GetS, Line: line, Dirty: true}, {Kind: api.GetM, Line: line, Kept: true}, {Kind: api.Clean, Line: line, Data: old}, {Kind: api.Wipe, Line: line, Dirty: true, Data: old},
	{Kind: api.Put, Line: line, Data: old}, {Kind: api.Put, Line: line, Kept: true},
	{Kind: api.InvAck, Line: line, Data: old}, {Kind: api.InvAck, Line: line, Kept: true}, {Kind: api.InvAck, Line: line, Dirty: true, Kept: true},
	{Kind: api.DnAck, Line: line, Data: old}, {Kind: api.DnAck, Line: line, Kept: true, Data: old},
}

// told are messages of a form that no core sends.
var told = []api.Msg{
	{Kind: api.DataS, Line: line, Data: old}, {Kind: api.DataE, Line: line}, {Kind: api.DataM, Line: line},
	{Kind: api.PutAck, Line: line}, {Kind: api.Invl, Line: line}, {Kind: api.Down, Line: line}, {Kind: api.Done, Line: line},
}

// requests are all forms of what is asked of a line.
func requests(line int) []api.Msg {
	return []api.Msg{
		{Kind: api.GetS, Line: line}, {Kind: api.GetM, Line: line},
		{Kind: api.Put, Line: line}, {Kind: api.Put, Line: line, Dirty: true}, {Kind: api.Put, Line: line, Dirty: true, Data: newer},
		{Kind: api.Clean, Line: line}, {Kind: api.Wipe, Line: line},
	}
}

// replies are all forms of what is answered of a line.
func replies(line int) []api.Msg {
	return []api.Msg{
		{Kind: api.InvAck, Line: line}, {Kind: api.InvAck, Line: line, Dirty: true}, {Kind: api.InvAck, Line: line, Dirty: true, Data: newer},
		{Kind: api.DnAck, Line: line}, {Kind: api.DnAck, Line: line, Dirty: true}, {Kind: api.DnAck, Line: line, Dirty: true, Data: newer},
		{Kind: api.DnAck, Line: line, Kept: true}, {Kind: api.DnAck, Line: line, Kept: true, Dirty: true}, {Kind: api.DnAck, Line: line, Kept: true, Dirty: true, Data: newer},
	}
}

// here is an entry of a line with old words, with nothing on its way.
func here(owner int, share uint8) dir.Entry {
	return dir.Entry{Here: true, Data: old, Owner: owner, Share: share}
}

// busy is e with that on its way.
func busy(e dir.Entry, kind, by int, wait uint8) dir.Entry {
	e.Busy, e.By, e.Wait = kind, by, wait
	return e
}

// send is a message of that kind, without words, to that core.
func send(to, kind int) dir.Send {
	return dir.Send{To: to, M: api.Msg{Kind: kind, Line: line}}
}

// sendWords is a message of that kind with these words.
func sendWords(to, kind int, words api.Line) dir.Send {
	return dir.Send{To: to, M: api.Msg{Kind: kind, Line: line, Data: words}}
}

// quiet are all good entries of a line that is here with nothing on its way: each Owner, and each mask of readers.
func quiet() []dir.Entry {
	var l []dir.Entry
	for owner := range 8 {
		l = append(l, here(owner, 0))
	}
	for share := range 256 {
		l = append(l, here(-1, uint8(share)))
	}
	return alsoDirty(l)
}

// waiting are good entries with each kind on its way, of each core: waiting for the Owner or not, and for some of the readers, who are among few.
func waiting() []dir.Entry {
	const few = 1<<0 | 1<<1 | 1<<3 | 1<<6 | 1<<7
	var l []dir.Entry
	for _, kind := range []int{api.GetS, api.GetM, api.Clean, api.Wipe} {
		for by := range 8 {
			for wait := 0; wait < 256; wait++ {
				if wait == 0 && (kind == api.GetS || kind == api.GetM) || wait&^few != 0 {
					continue
				}
				for share := range 256 {
					if share&^few == 0 && wait&^share == 0 {
						l = append(l, busy(here(-1, uint8(share)), kind, by, uint8(wait)))
					}
				}
			}
			for owner := range 8 {
				l = append(l, busy(here(owner, 0), kind, by, 1<<owner))
				if kind == api.Clean || kind == api.Wipe {
					l = append(l, busy(here(owner, 0), kind, by, 0))
				}
			}
		}
	}
	return alsoDirty(l)
}

// alsoDirty are the entries, and the same ones with words that are newer than the memory's.
func alsoDirty(l []dir.Entry) []dir.Entry {
	for _, e := range slices.Clone(l) {
		e.Dirty = true
		l = append(l, e)
	}
	return l
}

// plain is an entry with sets of cores in the plainest form, and what was told of it.
type plain struct {
	dir.Entry
	share, wait [8]bool
	line        int
	sends       []dir.Send
}

func plainOf(e dir.Entry, line int) *plain {
	p := &plain{Entry: e, line: line}
	for core := range 8 {
		p.share[core] = e.Share>>core%2 == 1
		p.wait[core] = e.Wait>>core%2 == 1
	}
	return p
}

func (p *plain) entry() dir.Entry {
	e := p.Entry
	e.Share, e.Wait = 0, 0
	for core := 7; core >= 0; core-- {
		e.Share, e.Wait = 2*e.Share, 2*e.Wait
		if p.share[core] {
			e.Share++
		}
		if p.wait[core] {
			e.Wait++
		}
	}
	return e
}

func (p *plain) tell(to, kind int) {
	m := api.Msg{Kind: kind, Line: p.line}
	if kind == api.DataS || kind == api.DataE || kind == api.DataM {
		m.Data = p.Data
	}
	p.sends = append(p.sends, dir.Send{To: to, M: m})
}

// begin has what core asked on its way, and tells that kind to whoever is waited for.
func (p *plain) begin(core, asked, kind int, waits func(core int) bool) {
	p.Busy, p.By = asked, core
	for other := range 8 {
		if waits(other) {
			p.wait[other] = true
			p.tell(other, kind)
		}
	}
}

func (p *plain) nobody() bool { return p.share == [8]bool{} && p.Owner == -1 }

// holds tells whether the core may have words.
func (p *plain) holds(core int) bool { return p.share[core] || p.Owner == core }

// ask is Ask of a good entry that is here and not busy.
func (p *plain) ask(core int, m api.Msg) {
	isOwner := func(other int) bool { return other == p.Owner }
	switch m.Kind {
	case api.GetS:
		if p.Owner != -1 && p.Owner != core {
			p.begin(core, m.Kind, api.Down, isOwner)
		} else if p.share == [8]bool{} {
			p.Owner = core
			p.tell(core, api.DataE)
		} else {
			p.share[core] = true
			p.tell(core, api.DataS)
		}
	case api.GetM:
		others := 0
		for other := range 8 {
			if other != core && p.holds(other) {
				others++
			}
		}
		if others == 0 {
			p.Owner, p.share = core, [8]bool{}
			p.tell(core, api.DataM)
		} else {
			p.begin(core, m.Kind, api.Invl, func(other int) bool { return other != core && p.holds(other) })
		}
	case api.Put:
		if p.Owner == core {
			p.Owner = -1
			if m.Dirty {
				p.Data, p.Dirty = m.Data, true
			}
		} else {
			p.share[core] = false
		}
		p.tell(core, api.PutAck)
	case api.Clean:
		p.begin(core, m.Kind, api.Down, isOwner)
	case api.Wipe:
		p.begin(core, m.Kind, api.Invl, p.holds)
	}
}

// answer is Answer of a good entry that waits for core.
func (p *plain) answer(core int, m api.Msg) {
	p.wait[core] = false
	if m.Dirty {
		p.Data, p.Dirty = m.Data, true
	}
	if p.Owner == core {
		p.Owner = -1
	}
	p.share[core] = m.Kind == api.DnAck && m.Kept
	if p.wait != [8]bool{} {
		return
	}
	by := p.By
	switch p.Busy {
	case api.GetS:
		p.Busy, p.By = 0, 0
		p.share[by] = true
		p.tell(by, api.DataS)
	case api.GetM:
		p.Busy, p.By = 0, 0
		p.Owner, p.share = by, [8]bool{}
		p.tell(by, api.DataM)
	}
}

// call is what was called, with what; it is told of a fault alone.
type call struct {
	name string
	e    dir.Entry
	core int
	m    api.Msg
}

// checkStep holds what became of an entry against want.
func checkStep(t *testing.T, what call, got dir.Entry, sends []dir.Send, err api.Errno, want dir.Entry, wantSends []dir.Send) {
	t.Helper()
	if err != api.OK || got != want || !slices.Equal(sends, wantSends) {
		t.Errorf("%+v: %+v, %+v, %d; want %+v, %+v", what, got, sends, err, want, wantSends)
	}
	if !dir.Good(got) {
		t.Errorf("%+v: %+v is not good", what, got)
	}
}

// checkNone holds that there is this error and nothing else.
func checkNone(t *testing.T, what call, got dir.Entry, sends []dir.Send, err, want api.Errno) {
	t.Helper()
	if err != want || got != (dir.Entry{}) || len(sends) != 0 {
		t.Errorf("%+v: %+v, %+v, %d; want error %d alone", what, got, sends, err, want)
	}
}
