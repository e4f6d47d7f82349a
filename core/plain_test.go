package core_test

import (
	"slices"

	"bellows/api"
	"bellows/mesi"
	"bellows/sbuf"
)

// plain is a core in the plainest form: words whose parts are cut out each time, and a list of entries; operations by their numbers.
type plain struct {
	id, room int
	words    []uint64
	v        view
}

func (p *plain) event(kind, line, word int, val uint64) []api.Event {
	return []api.Event{{Kind: kind, Core: p.id, Line: line, Word: word, Val: val}}
}

// cut tells the parts of a word; false of a word of no instruction.
func cut(u uint64) (op, a, b, c int, imm uint64, ok bool) {
	has := [][4]bool{ // A, B, C, Imm
		{}, {true, false, false, true},
		{true, true, true, false}, {true, true, true, false}, {true, true, true, false}, {true, true, true, false}, {true, true, true, false}, {true, true, true, false},
		{true, true, false, true}, {true, true, false, true}, {true, true, true, false}, {true, true, true, false},
		{false, true, false, true}, {false, true, false, true}, {false, true, false, true}, {}, {},
		{false, false, false, true}, {true, true, false, true}, {true, true, false, true}, {true, true, false, true}, {true, false, false, false}, {},
	}
	op, a, b, c, imm = int(u%256), int(u>>8%16), int(u>>12%16), int(u>>16%16), u>>32
	if op > 22 || u>>20%4096 != 0 {
		return op, a, b, c, imm, false
	}
	for n, reg := range []int{a, b, c} {
		if reg > 7 || reg != 0 && !has[op][n] {
			return op, a, b, c, imm, false
		}
	}
	if imm != 0 && !has[op][3] || imm>>31 == 1 && op >= 17 && op <= 20 {
		return op, a, b, c, imm, false
	}
	if imm>>31 == 1 { // its sign
		imm |= 0xffffffff << 32
	}
	return op, a, b, c, imm, true
}

// ends lets it run no more.
func (p *plain) ends(kind int) []api.Event {
	p.v.runs = false
	return p.event(kind, 0, 0, 0)
}

func (p *plain) exec(s *mesi.System) []api.Event {
	if !p.v.runs {
		return nil
	}
	if p.v.place >= len(p.words) {
		return p.ends(api.EvTrap)
	}
	op, a, b, c, imm, ok := cut(p.words[p.v.place])
	if !ok {
		return p.ends(api.EvTrap)
	}
	if op >= 8 && op <= 14 {
		return p.access(s, op, a, b, c, imm)
	}
	if op == 22 {
		return p.ends(api.EvHalt)
	}
	return p.simple(op, a, b, c, imm)
}

// simple does what hangs on nothing outside the core.
func (p *plain) simple(op, a, b, c int, imm uint64) []api.Event {
	r := &p.v.regs
	x, y, next := r[b], r[c], p.v.place+1
	var l []api.Event
	goes := false
	switch op {
	case 1:
		r[a] = imm
	case 2:
		r[a] = x + y
	case 3:
		r[a] = x - y
	case 4:
		r[a] = x & y
	case 5:
		r[a] = x ^ y
	case 6:
		r[a] = x << (y % 64)
	case 7:
		r[a] = x >> (y % 64)
	case 15, 16:
		if len(p.v.buffer) > 0 || p.v.waits > 0 {
			return nil
		}
		l = p.event(api.EvFence, 0, 0, 0)
	case 17:
		goes = true
	case 18:
		goes = r[a] == x
	case 19:
		goes = r[a] != x
	case 20:
		goes = r[a] < x
	case 21:
		l = p.event(api.EvTell, 0, 0, r[a])
	}
	if goes {
		next = int(imm)
	}
	p.v.place = next
	return l
}

// access does what has an address.
func (p *plain) access(s *mesi.System, op, a, b, c int, imm uint64) []api.Event {
	addr := p.v.regs[b] + imm
	if addr%8 != 0 || addr >= uint64(64*s.Config().Lines) {
		return p.ends(api.EvTrap)
	}
	line, word := int(addr/64), int(addr%64/8)
	var l []api.Event
	switch op {
	case 8:
		l = p.load(s, a, line, word)
	case 10, 11:
		l = p.change(s, op, a, c, line, word)
	default:
		if len(p.v.buffer) == p.room {
			return nil
		}
		e := sbuf.Entry{Kind: op, Line: line}
		l = p.event(api.EvWant, line, 0, 0)
		if op == 9 {
			e.Word, e.Val = word, p.v.regs[a]
			l = p.event(api.EvIssue, line, word, e.Val)
		}
		p.v.buffer = append(slices.Clone(p.v.buffer), e)
	}
	if len(l) > 0 {
		p.v.place++
	}
	return l
}

func (p *plain) load(s *mesi.System, a, line, word int) []api.Event {
	for n := len(p.v.buffer) - 1; n >= 0; n-- {
		if e := p.v.buffer[n]; e.Kind == api.St && e.Line == line && e.Word == word {
			p.v.regs[a] = e.Val
			return p.event(api.EvOwn, line, word, e.Val)
		}
	}
	v, hit := s.Load(p.id, line, word)
	if !hit {
		return nil
	}
	p.v.regs[a] = v
	return p.event(api.EvLoad, line, word, v)
}

func (p *plain) change(s *mesi.System, op, a, c, line, word int) []api.Event {
	if len(p.v.buffer) > 0 || p.v.waits > 0 || !s.Reach(p.id, line) {
		return nil
	}
	old, _ := s.Load(p.id, line, word)
	l := p.event(api.EvRmw, line, word, old)
	v, r := p.v.regs[c], &p.v.regs
	if op == 11 {
		v += old
	}
	if op == 11 || old == r[a] {
		s.Store(p.id, line, word, v)
		l = append(l, p.event(api.EvStore, line, word, v)...)
	}
	r[a] = old
	return l
}

func (p *plain) drain(s *mesi.System) []api.Event {
	if len(p.v.buffer) == 0 {
		return nil
	}
	e := p.v.buffer[0]
	if e.Kind == api.St {
		if !s.Store(p.id, e.Line, e.Word, e.Val) {
			return nil
		}
		p.v.buffer = p.v.buffer[1:]
		return p.event(api.EvStore, e.Line, e.Word, e.Val)
	}
	if e.Sent {
		if p.v.waits == 0 {
			p.v.buffer = p.v.buffer[1:]
		}
		return nil
	}
	if p.v.waits >= 16 || s.Flush(p.id, e.Line, flushes[e.Kind]) != api.OK {
		return nil
	}
	p.v.waits++
	p.v.buffer = slices.Clone(p.v.buffer)
	if p.v.buffer[0].Sent = true; e.Kind != api.Flush {
		p.v.buffer = p.v.buffer[1:]
	}
	return p.event(api.EvSend, e.Line, 0, 0)
}

func (p *plain) hear(m api.Msg) []api.Event {
	if m.Kind != api.Done || p.v.waits == 0 {
		return nil
	}
	p.v.waits--
	return p.event(api.EvFlush, m.Line, 0, 0)
}
