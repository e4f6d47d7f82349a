package bus_test

import (
	"slices"

	"bellows/api"
)

// plain is a bus in the plainest form: nothing but the events that happened; all that there is is looked up in them each time.
type plain struct {
	c     api.Config
	start []api.Line // the lines behind the last failure
	life  []api.Event
}

// own tells whether e is one of that core's events.
func ownEvent(e api.Event, core int) bool {
	return e.Core == core && e.Kind != 5 && e.Kind != 11
}

// wants are all stores and flushes that the core ever put into its store buffer, and how many of them are gone.
func (p *plain) wants(core int) (all []api.Event, gone int) {
	last := 0
	for _, e := range p.life {
		if !ownEvent(e, core) {
			continue
		}
		switch e.Kind {
		case 12, 14:
			all = append(all, e)
		case 13:
			gone++
		case 3:
			if last != 4 {
				gone++
			}
		}
		last = e.Kind
	}
	return all, gone
}

func (p *plain) buffer(core int) []api.Event {
	all, gone := p.wants(core)
	return all[gone:]
}

// stopped tells whether the core came to its end.
func (p *plain) stopped(core int) bool {
	return slices.ContainsFunc(p.life, func(e api.Event) bool { return ownEvent(e, core) && (e.Kind == 9 || e.Kind == 10) })
}

// last is the core's last event.
func (p *plain) last(core int) api.Event {
	for n := len(p.life) - 1; n >= 0; n-- {
		if ownEvent(p.life[n], core) {
			return p.life[n]
		}
	}
	return api.Event{}
}

// open are the places of the core's sendings of flushes of that line (-1: of any) that were not answered.
func (p *plain) open(core, line int) []int {
	var out []int
	for l := range p.c.Lines {
		if line >= 0 && l != line {
			continue
		}
		var sent []int
		answered := 0
		for n, e := range p.life {
			if e.Core == core && e.Line == l && e.Kind == 13 {
				sent = append(sent, n)
			}
			if e.Core == core && e.Line == l && e.Kind == 6 {
				answered++
			}
		}
		out = append(out, sent[answered:]...)
	}
	return out
}

// seen are the lines behind the first n events.
func (p *plain) seen(n int) []api.Line {
	l := slices.Clone(p.start)
	for _, e := range p.life[:n] {
		if e.Kind == 3 {
			l[e.Line][e.Word] = e.Val
		}
	}
	return l
}

func (p *plain) lines() []api.Line { return p.seen(len(p.life)) }

func (p *plain) kept() []api.Line {
	l := slices.Clone(p.start)
	for n, e := range p.life {
		if e.Kind == 5 && e.Line >= p.c.Volatile {
			l[e.Line] = p.seen(n)[e.Line]
		}
	}
	return l
}

// names tells whether what an event of that kind names is there.
func (p *plain) names(e api.Event) bool {
	core := e.Core >= 0 && e.Core < p.c.Cores
	line := e.Line >= 0 && e.Line < p.c.Lines
	switch e.Kind {
	case 1, 2, 3, 4, 12:
		return core && line && e.Word >= 0 && e.Word < 8
	case 6, 13, 14:
		return core && line
	case 7, 8, 9, 10:
		return core
	case 5:
		return line
	}
	return e.Kind == 11
}

// ownStore is the last store of that word in the core's store buffer.
func (p *plain) ownStore(e api.Event) (uint64, bool) {
	for _, x := range slices.Backward(p.buffer(e.Core)) {
		if x.Kind == 12 && x.Line == e.Line && x.Word == e.Word {
			return x.Val, true
		}
	}
	return 0, false
}

// may tells whether e is allowed.
func (p *plain) may(e api.Event) bool {
	if !p.names(e) || slices.Contains([]int{12, 14, 1, 2, 4, 7, 8, 9, 10}, e.Kind) && p.stopped(e.Core) {
		return false
	}
	if slices.Contains([]int{5, 8, 9, 10, 11, 12, 14}, e.Kind) {
		return true
	}
	buffer, last := p.buffer(e.Core), p.last(e.Core)
	switch e.Kind {
	case 1:
		_, has := p.ownStore(e)
		return !has && p.lines()[e.Line][e.Word] == e.Val
	case 2:
		v, has := p.ownStore(e)
		return has && v == e.Val
	case 3:
		if len(buffer) > 0 {
			x := buffer[0]
			return x.Kind == 12 && x.Line == e.Line && x.Word == e.Word && x.Val == e.Val
		}
		return last.Kind == 4 && last.Line == e.Line && last.Word == e.Word
	case 13:
		return len(buffer) > 0 && buffer[0].Kind == 14 && buffer[0].Line == e.Line
	case 6:
		open := p.open(e.Core, e.Line)
		return len(open) > 0 && slices.ContainsFunc(p.life[open[0]:], func(x api.Event) bool { return x.Kind == 5 && x.Line == e.Line })
	}
	return len(buffer) == 0 && len(p.open(e.Core, -1)) == 0 && (e.Kind == 7 || p.lines()[e.Line][e.Word] == e.Val)
}

// do lets e happen, if it is allowed.
func (p *plain) do(e api.Event) bool {
	if !p.may(e) {
		return false
	}
	if e.Kind == 11 {
		p.start, p.life = p.kept(), nil
		return true
	}
	p.life = append(p.life, e)
	return true
}

func (p *plain) look() view {
	v := view{lines: p.lines(), kept: p.kept()}
	for id := range p.c.Cores {
		v.pending[id] = len(p.buffer(id))
	}
	return v
}
