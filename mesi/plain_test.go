package mesi_test

import (
	"math"
	"slices"
	"testing"

	"bellows/agent"
	"bellows/api"
	"bellows/array"
	"bellows/dir"
	"bellows/mesi"
)

// noCores, noLines and noWords are none of any system; some come to good ones where bits are lost.
var (
	noCores = []int{math.MinInt, math.MinInt + 1, -1 << 32, -256, -8, -7, -1, 8, 9, 64, 256, 257, 1 << 32, 1<<32 + 1, math.MaxInt}
	noLines = []int{math.MinInt, math.MinInt + 3, -1 << 32, -1<<32 + 3, -61, -3, -1, 64, 65, 67, 128, 256, 259, 1 << 32, 1<<32 + 3, math.MaxInt}
	noWords = []int{math.MinInt, math.MinInt + 2, -1 << 32, -256, -8, -6, -1, 8, 9, 10, 64, 256, 258, 1 << 32, 1<<32 + 2, math.MaxInt}
)

// small is a shape with one slot less than it has lines that do not forget.
func small() api.Config {
	return api.Config{Cores: 3, Lines: 6, Volatile: 2, Sets: 1, Ways: 3, Queue: 2, Store: 4}
}

// first is an image of so many lines; no word is 0.
func first(lines int) []api.Line {
	img := make([]api.Line, lines)
	for i := range img {
		for w := range img[i] {
			img[i][w] = uint64(i+1)<<32 + uint64(w) + 1
		}
	}
	return img
}

// kept is what of an image does not forget.
func kept(img []api.Line, volatile int) []api.Line {
	img = slices.Clone(img)
	clear(img[:volatile])
	return img
}

func newSystem(t *testing.T, c api.Config) *mesi.System {
	t.Helper()
	s, e := mesi.New(c, first(c.Lines))
	if s == nil || e != api.OK {
		t.Fatalf("New(%+v): %v, %d; want a system", c, s, e)
	}
	return s
}

// line is the words of a line of a small system as they are at first.
func line(n int) api.Line {
	return kept(first(small().Lines), small().Volatile)[n]
}

// put is l with v as that word.
func put(l api.Line, word int, v uint64) api.Line {
	l[word] = v
	return l
}

func ask(kind, line int) api.Msg { return api.Msg{Kind: kind, Line: line} }

// data is a message with words that are not newer than the memory's, as far as it tells.
func data(kind, line int, words api.Line) api.Msg {
	return api.Msg{Kind: kind, Line: line, Data: words}
}

// dirty is a message with words that were written.
func dirty(kind, line int, words api.Line) api.Msg {
	return api.Msg{Kind: kind, Line: line, Dirty: true, Data: words}
}

func msgs(l ...api.Msg) []api.Msg { return l }

// must holds that what was done went well.
func must(t *testing.T, what string, e api.Errno) {
	t.Helper()
	if e != api.OK {
		t.Fatalf("%s: %d", what, e)
	}
}

func checkErr(t *testing.T, what string, e, want api.Errno) {
	t.Helper()
	if e != want {
		t.Errorf("%s: %d; want %d", what, e, want)
	}
}

func checkQueues(t *testing.T, s *mesi.System, what string, core int, up, answers, down []api.Msg) {
	t.Helper()
	if a, b, c := s.Queues(core); !slices.Equal(a, up) || !slices.Equal(b, answers) || !slices.Equal(c, down) {
		t.Errorf("%s: queues of %d: up %+v, answers %+v, down %+v; want %+v, %+v, %+v", what, core, a, b, c, up, answers, down)
	}
}

func checkHear(t *testing.T, s *mesi.System, what string, core int, want api.Msg) {
	t.Helper()
	if m, e := s.Hear(core); m != want || e != api.OK {
		t.Errorf("%s: Hear(%d): %+v, %d; want %+v", what, core, m, e, want)
	}
}

func checkLoad(t *testing.T, s *mesi.System, what string, core, line, word int, want uint64, hit bool) {
	t.Helper()
	if v, got := s.Load(core, line, word); v != want || got != hit {
		t.Errorf("%s: Load(%d, %d, %d): %d, %v; want %d, %v", what, core, line, word, v, got, want, hit)
	}
}

func checkStore(t *testing.T, s *mesi.System, what string, core, line, word int, v uint64, hit bool) {
	t.Helper()
	if got := s.Store(core, line, word, v); got != hit {
		t.Errorf("%s: Store(%d, %d, %d, %d): %v", what, core, line, word, v, got)
	}
}

func checkEntry(t *testing.T, s *mesi.System, what string, line int, want dir.Entry) {
	t.Helper()
	if got := s.Entry(line); got != want {
		t.Errorf("%s: entry %d: %+v; want %+v", what, line, got, want)
	}
}

func checkMemory(t *testing.T, s *mesi.System, what string, want []api.Line) {
	t.Helper()
	if got := s.Memory(); !slices.Equal(got, want) {
		t.Errorf("%s: memory %v; want %v", what, got, want)
	}
}

func checkWaiting(t *testing.T, s *mesi.System, what string, want ...int) {
	t.Helper()
	if got := s.Waiting(); !slices.Equal(got, want) {
		t.Errorf("%s: waiting %v; want %v", what, got, want)
	}
}

// stateOf is the state that the line has in that core's L1.
func stateOf(s *mesi.System, core, line int) int {
	for _, x := range s.Slots(core) {
		if x.Line == line {
			return x.State
		}
	}
	return api.Inv
}

func checkState(t *testing.T, s *mesi.System, what string, core, line, want int) {
	t.Helper()
	if got := stateOf(s, core, line); got != want {
		t.Errorf("%s: line %d of core %d is %d; want %d", what, line, core, got, want)
	}
}

// view is all that a system tells.
type view struct {
	entries           []dir.Entry
	slots             [][]array.Slot
	up, answers, down [][]api.Msg
	waiting           []int
	memory            []api.Line
}

// look tells all that s tells.
func look(s *mesi.System) view {
	v := view{waiting: s.Waiting(), memory: s.Memory()}
	for line := range s.Config().Lines {
		v.entries = append(v.entries, s.Entry(line))
	}
	for core := range s.Config().Cores {
		up, answers, down := s.Queues(core)
		v.slots = append(v.slots, s.Slots(core))
		v.up, v.answers, v.down = append(v.up, up), append(v.answers, answers), append(v.down, down)
	}
	return v
}

func sameLists[T comparable](a, b [][]T) bool {
	return slices.EqualFunc(a, b, func(x, y []T) bool { return slices.Equal(x, y) })
}

func same(a, b view) bool {
	return slices.Equal(a.entries, b.entries) && sameLists(a.slots, b.slots) &&
		sameLists(a.up, b.up) && sameLists(a.answers, b.answers) && sameLists(a.down, b.down) &&
		slices.Equal(a.waiting, b.waiting) && slices.Equal(a.memory, b.memory)
}

// checkSame holds that s tells what it told before.
func checkSame(t *testing.T, s *mesi.System, what string, was view) {
	t.Helper()
	if now := look(s); !same(now, was) {
		t.Errorf("%s: it changed: %+v; was %+v", what, now, was)
	}
}

// moves lets all messages move, till none does.
func moves(t *testing.T, s *mesi.System) {
	t.Helper()
	for moved := true; moved; {
		moved = false
		for core := range s.Config().Cores {
			_, e := s.Hear(core)
			for kind, e := range []api.Errno{s.Up(core), s.Answer(core), e} {
				if e != api.OK && e != api.ErrNone && (e != api.ErrBusy || kind != 0) {
					t.Fatalf("core %d, kind %d: %d", core, kind, e)
				}
				moved = moved || e == api.OK
			}
		}
	}
}

// read lets the core have the line to read it.
func read(t *testing.T, s *mesi.System, core, line int) {
	t.Helper()
	for range 3 {
		if _, hit := s.Load(core, line, 0); hit {
			return
		}
		moves(t, s)
	}
	t.Fatalf("core %d can't read line %d", core, line)
}

// write lets the core write a word of the line.
func write(t *testing.T, s *mesi.System, core, line, word int, v uint64) {
	t.Helper()
	for range 3 {
		if s.Store(core, line, word, v) {
			return
		}
		moves(t, s)
	}
	t.Fatalf("core %d can't write line %d", core, line)
}

// waits is an entry of the memory's queue.
type waits struct {
	line int
	data api.Line
}

// plain is a system in the plainest form: lists of messages, and the calls of agents and entries as the chapter's words say them.
type plain struct {
	c                 api.Config
	device            []api.Line
	waiting           []waits
	l1                []*agent.Agent
	up, answers, down [][]api.Msg
	entries           []dir.Entry
}

func newPlain(c api.Config, img []api.Line) *plain {
	p := &plain{c: c, device: kept(img, c.Volatile)}
	p.fail()
	return p
}

func (p *plain) fail() {
	p.device = kept(p.memory(), p.c.Volatile)
	p.waiting = nil
	p.l1 = nil
	for range p.c.Cores {
		a, _ := agent.New(p.c.Sets, p.c.Ways)
		p.l1 = append(p.l1, a)
	}
	p.up, p.answers, p.down = make([][]api.Msg, p.c.Cores), make([][]api.Msg, p.c.Cores), make([][]api.Msg, p.c.Cores)
	p.entries = make([]dir.Entry, p.c.Lines)
	for i := range p.entries {
		p.entries[i].Owner = -1
	}
}

func (p *plain) memory() []api.Line {
	img := slices.Clone(p.device)
	for _, x := range p.waiting {
		img[x.line] = x.data
	}
	return img
}

func (p *plain) view() view {
	v := view{entries: p.entries, up: p.up, answers: p.answers, down: p.down, memory: p.memory()}
	for _, x := range p.waiting {
		v.waiting = append(v.waiting, x.line)
	}
	for _, a := range p.l1 {
		v.slots = append(v.slots, a.Slots())
	}
	return v
}

func (p *plain) load(core, line, word int) (uint64, bool) {
	v, hit, asks := p.l1[core].Load(line, word)
	p.up[core] = append(p.up[core], asks...)
	return v, hit
}

func (p *plain) store(core, line, word int, v uint64) bool {
	hit, asks := p.l1[core].Store(line, word, v)
	p.up[core] = append(p.up[core], asks...)
	return hit
}

func (p *plain) reach(core, line int) bool {
	p.up[core] = append(p.up[core], p.l1[core].Reach(line)...)
	return p.l1[core].Owns(line)
}

func (p *plain) evict(core, line int) api.Errno {
	asks, e := p.l1[core].Evict(line)
	p.up[core] = append(p.up[core], asks...)
	return e
}

func (p *plain) flush(core, line, kind int) api.Errno {
	p.up[core] = append(p.up[core], ask(kind, line))
	return api.OK
}

// becomes takes what became of the line's entry.
func (p *plain) becomes(line int, e dir.Entry, sends []dir.Send) {
	p.entries[line] = e
	for _, x := range sends {
		if x.M.Kind == api.Done {
			x.M.Line = line
		}
		p.down[x.To] = append(p.down[x.To], x.M)
	}
}

func (p *plain) ask(core int) api.Errno {
	if len(p.up[core]) == 0 {
		return api.ErrNone
	}
	m := p.up[core][0]
	if p.entries[m.Line].Busy != 0 {
		return api.ErrBusy
	}
	if !p.entries[m.Line].Here {
		p.entries[m.Line] = dir.Entry{Here: true, Data: p.memory()[m.Line], Owner: -1}
	}
	e, sends, err := dir.Ask(p.entries[m.Line], core, m)
	p.up[core] = p.up[core][1:]
	p.becomes(m.Line, e, sends)
	return err
}

func (p *plain) answer(core int) api.Errno {
	if len(p.answers[core]) == 0 {
		return api.ErrNone
	}
	m := p.answers[core][0]
	p.answers[core] = p.answers[core][1:]
	e, sends, err := dir.Answer(p.entries[m.Line], core, m)
	p.becomes(m.Line, e, sends)
	return err
}

func (p *plain) hear(core int) (api.Msg, api.Errno) {
	if len(p.down[core]) == 0 {
		return api.Msg{}, api.ErrNone
	}
	m := p.down[core][0]
	p.down[core] = p.down[core][1:]
	l, err := p.l1[core].Hear(m)
	p.answers[core] = append(p.answers[core], l...)
	return m, err
}

// save lets the line go to the memory's queue, if it is Dirty; false, if there is no room.
func (p *plain) save(line int) bool {
	if !p.entries[line].Dirty {
		return true
	}
	if len(p.waiting) == p.c.Queue {
		return false
	}
	p.waiting = append(p.waiting, waits{line, p.entries[line].Data})
	return true
}

func (p *plain) push(line int) api.Errno {
	if !dir.Ready(p.entries[line]) {
		return api.ErrState
	}
	if !p.save(line) {
		return api.ErrFull
	}
	e, sends, err := dir.Pushed(p.entries[line])
	p.becomes(line, e, sends)
	return err
}

func (p *plain) drop(line int) api.Errno {
	e := p.entries[line]
	if !e.Here || e.Owner != -1 || e.Share != 0 || e.Busy != 0 {
		return api.ErrState
	}
	if !p.save(line) {
		return api.ErrFull
	}
	p.becomes(line, dir.Entry{Owner: -1}, nil)
	return api.OK
}

func (p *plain) drain(line int) api.Errno {
	for i, x := range p.waiting {
		if x.line == line {
			p.device[line] = x.data
			p.waiting = slices.Delete(p.waiting, i, i+1)
			return api.OK
		}
	}
	return api.ErrNone
}
