package sbuf_test

import (
	"slices"
	"testing"

	"bellows/api"
	"bellows/sbuf"
)

// plain is a buffer as a list of entries, the first one first.
type plain struct {
	room    int
	entries []sbuf.Entry
}

func (p *plain) push(e sbuf.Entry) api.Errno {
	if len(p.entries) == p.room {
		return api.ErrFull
	}
	p.entries = append(slices.Clone(p.entries), e)
	return api.OK
}

// find goes through all stores, of which the last one of the place holds.
func (p *plain) find(line, word int) (v uint64, ok bool) {
	for _, e := range p.entries {
		if e.Kind == api.St && e.Line == line && e.Word == word {
			v, ok = e.Val, true
		}
	}
	return v, ok
}

func (p *plain) pop() (sbuf.Entry, bool) {
	if len(p.entries) == 0 {
		return sbuf.Entry{}, false
	}
	e := p.entries[0]
	p.entries = p.entries[1:]
	return e, true
}

func (p *plain) send() {
	if len(p.entries) > 0 && p.entries[0].Kind == api.Flush {
		p.entries = slices.Clone(p.entries)
		p.entries[0].Sent = true
	}
}

// walker gives numbers, one behind the other, the same ones each time.
type walker uint64

// below gives the next number, from 0 to the one below n.
func (w *walker) below(n int) int {
	*w = *w*6364136223846793005 + 1442695040888963407
	return int(uint64(*w) >> 33 % uint64(n))
}

// entry gives some entry of a few places, so that many are of one.
func (w *walker) entry() sbuf.Entry {
	line := w.below(3)
	switch w.below(8) {
	case 0:
		return flush(api.Clwb, line)
	case 1:
		return flush(api.Opt, line)
	case 2:
		return flush(api.Flush, line)
	}
	return store(line, w.below(2), uint64(w.below(5)))
}

// checkPlaces holds that each place of the walk has in b what it has in p.
func checkPlaces(t *testing.T, b *sbuf.Buffer, p *plain) {
	t.Helper()
	for line := range 4 {
		for word := range 3 {
			v, ok := p.find(line, word)
			checkFind(t, b, "on the walk", line, word, v, ok)
		}
	}
}

// P12.2 and P12.3: long walks of all rooms, up to full buffers and down to empty ones, beside a plain list: what is found is what was put last.
func TestWalk(t *testing.T) {
	for room := 1; room <= 16; room++ {
		b, p, w := newBuffer(t, room), &plain{room: room}, walker(room)
		full, empty := 0, 0
		for step := range 3000 {
			likely := 6
			if step/100%2 == 1 { // now more go than come
				likely = 3
			}
			switch n := w.below(10); {
			case n < likely:
				e := w.entry()
				want := p.push(e)
				checkPush(t, b, "on the walk", e, want)
				if want == api.ErrFull {
					full++
				}
			case n < 9:
				want, wantOK := p.pop()
				if e, ok := b.Pop(); e != want || ok != wantOK {
					t.Errorf("Pop: %+v, %v; want %+v, %v", e, ok, want, wantOK)
				}
				if !wantOK {
					empty++
				}
			case w.below(20) == 0:
				b.Clear()
				p.entries = nil
			default:
				b.Send()
				p.send()
			}
			checkBuffer(t, b, "on the walk", p.entries...)
			checkPlaces(t, b, p)
			if t.Failed() {
				t.Fatalf("room %d, step %d", room, step)
			}
		}
		if full == 0 || empty == 0 {
			t.Errorf("room %d: the walk found the buffer full %d times, empty %d times; want both", room, full, empty)
		}
	}
}

// P12.3: of however many stores to one place, with others between them, the last one is found, wherever the first one stands.
func TestLastIsFound(t *testing.T) {
	for room := 1; room <= 16; room++ {
		b := newBuffer(t, room)
		for n := range 100 {
			if n >= room {
				pop(t, b, store(3, (n-room)%2, uint64(n-room)))
			}
			push(t, b, store(3, n%2, uint64(n)))
			checkFind(t, b, "pushed", 3, n%2, uint64(n), true)
			if n > 0 && room > 1 {
				checkFind(t, b, "the one ahead of it", 3, (n-1)%2, uint64(n-1), true)
			}
		}
	}
}
