package wpq_test

import (
	"math"
	"slices"
	"testing"

	"bellows/api"
	"bellows/nvm"
	"bellows/wpq"
)

// noRooms are rooms that no queue may have; some come to good ones where bits are lost.
var noRooms = []int{math.MinInt, math.MinInt + 1, -16, -3, -1, 0, 17, 18, 32, 64, 1 << 32, 1<<32 + 3, math.MaxInt - 1, math.MaxInt}

// outside are numbers that are no line of a memory of at most 64 lines.
var outside = []int{math.MinInt, math.MinInt + 1, -65, -64, -2, -1, 64, 65, 1 << 32, 1<<32 + 1, math.MaxInt}

// words is a line, all words of which hang on n; none is 0.
func words(n uint64) api.Line {
	var l api.Line
	for w := range l {
		l[w] = n<<32 + uint64(w) + 1
	}
	return l
}

// device is a device whose line i is words(seed + i).
func device(t *testing.T, lines, volatile int, seed uint64) *nvm.Device {
	t.Helper()
	d, e := nvm.New(lines, volatile)
	if e != api.OK {
		t.Fatalf("a device of %d, %d: %d", lines, volatile, e)
	}
	for i := range lines {
		if e := d.Write(i, words(seed+uint64(i))); e != api.OK {
			t.Fatalf("writing line %d: %d", i, e)
		}
	}
	return d
}

func queue(t *testing.T, d *nvm.Device, room int) *wpq.Queue {
	t.Helper()
	q, e := wpq.New(d, room)
	if q == nil || e != api.OK {
		t.Fatalf("New(.., %d): %v, %d; want a queue", room, q, e)
	}
	return q
}

func push(t *testing.T, q *wpq.Queue, line int, l api.Line) {
	t.Helper()
	if e := q.Push(line, l); e != api.OK {
		t.Fatalf("Push(%d): %d", line, e)
	}
}

func drain(t *testing.T, q *wpq.Queue, line int) {
	t.Helper()
	if e := q.Drain(line); e != api.OK {
		t.Fatalf("Drain(%d): %d", line, e)
	}
}

// checkEntries holds Lines and Len against want.
func checkEntries(t *testing.T, q *wpq.Queue, what string, want ...int) {
	t.Helper()
	if got := q.Lines(); !slices.Equal(got, want) {
		t.Errorf("%s: Lines %v; want %v", what, got, want)
	}
	if got := q.Len(); got != len(want) {
		t.Errorf("%s: Len %d; want %d", what, got, len(want))
	}
}

// checkTold holds Read of each line, and Image, against want.
func checkTold(t *testing.T, q *wpq.Queue, what string, want []api.Line) {
	t.Helper()
	for line, l := range want {
		if got, e := q.Read(line); got != l || e != api.OK {
			t.Errorf("%s: Read(%d): %v, %d; want %v", what, line, got, e, l)
		}
	}
	if got := q.Image(); !slices.Equal(got, want) {
		t.Errorf("%s: Image %v; want %v", what, got, want)
	}
}

func checkDevice(t *testing.T, d *nvm.Device, what string, want []api.Line) {
	t.Helper()
	if got := d.Image(); !slices.Equal(got, want) {
		t.Errorf("%s: the device has %v; want %v", what, got, want)
	}
}

// P3.1: every room that there is; as many entries fit, and no more.
func TestNewEveryRoom(t *testing.T) {
	for room := 1; room <= 16; room++ {
		d := device(t, 4, 2, 100)
		was := d.Image()
		q := queue(t, d, room)
		checkEntries(t, q, "new")
		checkTold(t, q, "new", was)
		var lines []int
		for n := range room {
			push(t, q, n%4, words(uint64(n)))
			lines = append(lines, n%4)
			checkEntries(t, q, "pushed", lines...)
		}
		told := q.Image()
		for line := range 4 {
			if e := q.Push(line, words(999)); e != api.ErrFull {
				t.Errorf("room %d: Push(%d) of one more: %d; want ErrFull", room, line, e)
			}
		}
		checkEntries(t, q, "full", lines...)
		checkTold(t, q, "full", told)
		checkDevice(t, d, "full", was)
	}
}

// P3.1: rooms that there are not, and no device.
func TestNewWrong(t *testing.T) {
	d := device(t, 4, 2, 100)
	was := d.Image()
	for _, room := range noRooms {
		if q, e := wpq.New(d, room); q != nil || e != api.ErrArg {
			t.Errorf("New(.., %d): %v, %d; want nil, ErrArg", room, q, e)
		}
	}
	for _, room := range append(slices.Clone(noRooms), 1, 3, 16) {
		if q, e := wpq.New(nil, room); q != nil || e != api.ErrArg {
			t.Errorf("New(nil, %d): %v, %d; want nil, ErrArg", room, q, e)
		}
	}
	checkDevice(t, d, "behind wrong rooms", was)
}

// P3.1: of nil every call that has an error answers ErrArg, the others nothing.
func TestNil(t *testing.T) {
	var q *wpq.Queue
	for _, line := range append(slices.Clone(outside), 0, 1, 63) {
		if e := q.Push(line, words(1)); e != api.ErrArg {
			t.Errorf("Push(%d) of nil: %d; want ErrArg", line, e)
		}
		if l, e := q.Read(line); l != (api.Line{}) || e != api.ErrArg {
			t.Errorf("Read(%d) of nil: %v, %d; want ErrArg", line, l, e)
		}
		if e := q.Drain(line); e != api.ErrArg {
			t.Errorf("Drain(%d) of nil: %d; want ErrArg", line, e)
		}
	}
	q.Fail()
	checkEntries(t, q, "nil")
	if img := q.Image(); len(img) != 0 {
		t.Errorf("Image of nil: %v; want none", img)
	}
}

// P3.1: a line that the device has not is told ahead of a full queue, and changes nothing.
func TestPushNoSuchLine(t *testing.T) {
	for _, lines := range []int{2, 5, 63, 64} {
		d := device(t, lines, 1, 100)
		q := queue(t, d, 2)
		push(t, q, 1, words(1))
		for range 2 {
			entries, told := q.Lines(), q.Image()
			for _, line := range append(slices.Clone(outside), lines, lines+1) {
				if e := q.Push(line, words(9)); e != api.ErrAddr {
					t.Errorf("Push(%d) of %d lines: %d; want ErrAddr", line, lines, e)
				}
			}
			checkEntries(t, q, "behind wrong lines", entries...)
			checkTold(t, q, "behind wrong lines", told)
			if q.Len() == 1 {
				push(t, q, lines-1, words(2))
			}
		}
		if e := q.Push(lines-1, words(3)); e != api.ErrFull {
			t.Errorf("Push into a full queue: %d; want ErrFull", e)
		}
		if e := q.Push(0, words(3)); e != api.ErrFull {
			t.Errorf("Push into a full queue: %d; want ErrFull", e)
		}
	}
}

// P3.1: every line of the device may be pushed; there is room again behind Drain, and behind Fail.
func TestPushEveryLine(t *testing.T) {
	d := device(t, 64, 63, 100)
	q := queue(t, d, 1)
	for line := range 64 {
		push(t, q, line, words(uint64(line)+200))
		checkEntries(t, q, "pushed", line)
		if e := q.Push(63-line, words(1)); e != api.ErrFull {
			t.Errorf("Push of one more: %d; want ErrFull", e)
		}
		if line%2 == 0 {
			drain(t, q, line)
		} else {
			q.Fail()
		}
		checkEntries(t, q, "gone")
	}
}

// P3.2: the newest entry of a line hides the elder ones and the device, of that line alone.
func TestReadNewest(t *testing.T) {
	d := device(t, 5, 2, 100)
	q := queue(t, d, 16)
	was := d.Image()
	told := d.Image()
	for n := range uint64(16) {
		line := int(n*3) % 5
		if n < 8 {
			line = int(n*2) % 4 // 0 and 2 alone
		}
		told[line] = words(n)
		push(t, q, line, told[line])
		checkTold(t, q, "pushed", told)
		checkTold(t, q, "read again", told)
		checkDevice(t, d, "pushed", was)
	}
}

// P3.2: an entry of zeros hides the device as well.
func TestReadZeros(t *testing.T) {
	d := device(t, 3, 1, 100)
	q := queue(t, d, 4)
	push(t, q, 0, api.Line{})
	push(t, q, 2, words(5))
	push(t, q, 2, api.Line{})
	checkTold(t, q, "zeros", []api.Line{{}, words(101), {}})
	drain(t, q, 2)
	drain(t, q, 2)
	checkDevice(t, d, "zeros", []api.Line{words(100), words(101), {}})
}

// P3.2: without an entry Read tells what the device has by now, and its error; with one it does not ask the device.
func TestReadTheDevice(t *testing.T) {
	d := device(t, 4, 2, 100)
	q := queue(t, d, 4)
	push(t, q, 3, words(1))
	for line := range 4 {
		if e := d.Write(line, words(uint64(line)+50)); e != api.OK {
			t.Fatalf("Write(%d): %d", line, e)
		}
	}
	checkTold(t, q, "written", []api.Line{words(50), words(51), words(52), words(1)})
	d.Fail()
	checkTold(t, q, "failed", []api.Line{{}, {}, words(52), words(1)})
	if e := d.Restore(make([]api.Line, 4)); e != api.OK {
		t.Fatalf("Restore: %d", e)
	}
	checkTold(t, q, "restored", []api.Line{{}, {}, {}, words(1)})
	for _, line := range append(slices.Clone(outside), 4, 5) {
		if l, e := q.Read(line); l != (api.Line{}) || e != api.ErrAddr {
			t.Errorf("Read(%d): %v, %d; want ErrAddr", line, l, e)
		}
	}
}

// P3.2: the chapter's example.
func TestExample(t *testing.T) {
	d := device(t, 5, 2, 100)
	q := queue(t, d, 3)
	x, y := words(1), words(2)
	push(t, q, 3, x)
	push(t, q, 3, y)
	if l, e := q.Read(3); l != y || e != api.OK {
		t.Errorf("Read(3): %v, %d; want the newest one", l, e)
	}
	drain(t, q, 3)
	checkDevice(t, d, "drained", []api.Line{words(100), words(101), words(102), x, words(104)})
	checkEntries(t, q, "drained", 3)
	drain(t, q, 3)
	checkDevice(t, d, "drained again", []api.Line{words(100), words(101), words(102), y, words(104)})
	checkEntries(t, q, "drained again")
}

// P3.2: the eldest entry of the line is written and gone; all others stay, in their order.
func TestDrainEldest(t *testing.T) {
	d := device(t, 4, 2, 100)
	q := queue(t, d, 6)
	for n, line := range []int{2, 0, 2, 3, 0, 2} {
		push(t, q, line, words(uint64(n)))
	}
	has := d.Image()
	for _, step := range []struct {
		line   int
		data   uint64
		behind []int
	}{
		{0, 1, []int{2, 2, 3, 0, 2}},
		{2, 0, []int{2, 3, 0, 2}},
		{3, 3, []int{2, 0, 2}},
		{2, 2, []int{0, 2}},
		{2, 5, []int{0}},
		{0, 4, nil},
	} {
		drain(t, q, step.line)
		has[step.line] = words(step.data)
		checkDevice(t, d, "drained", has)
		checkEntries(t, q, "drained", step.behind...)
	}
}

// P3.2: a line without an entry, and one that there is not, has nothing to drain; nothing is done.
func TestDrainNone(t *testing.T) {
	d := device(t, 4, 2, 100)
	was := d.Image()
	q := queue(t, d, 3)
	none := append(slices.Clone(outside), 4, 5, 0, 1, 3)
	for _, line := range append(none, 2) {
		if e := q.Drain(line); e != api.ErrNone {
			t.Errorf("Drain(%d) of an empty queue: %d; want ErrNone", line, e)
		}
	}
	push(t, q, 2, words(1))
	push(t, q, 2, words(2))
	told := q.Image()
	for _, line := range none {
		if e := q.Drain(line); e != api.ErrNone {
			t.Errorf("Drain(%d): %d; want ErrNone", line, e)
		}
	}
	checkEntries(t, q, "nothing drained", 2, 2)
	checkTold(t, q, "nothing drained", told)
	checkDevice(t, d, "nothing drained", was)
	drain(t, q, 2)
	drain(t, q, 2)
	if e := q.Drain(2); e != api.ErrNone {
		t.Errorf("Drain(2) of what is drained: %d; want ErrNone", e)
	}
}

// P3.2 and P3.4: behind Fail the newest entry of a line is what the device has, but of lines that forget; the queue is empty.
func TestFail(t *testing.T) {
	d := device(t, 5, 2, 100)
	q := queue(t, d, 6)
	for n, line := range []int{3, 1, 3, 0, 4, 3} {
		push(t, q, line, words(uint64(n)))
	}
	want := []api.Line{{}, {}, words(102), words(5), words(4)}
	for range 2 {
		q.Fail()
		checkDevice(t, d, "failed", want)
		checkTold(t, q, "failed", want)
		checkEntries(t, q, "failed")
	}
	for line := range 5 {
		if e := q.Drain(line); e != api.ErrNone {
			t.Errorf("Drain(%d) behind Fail: %d; want ErrNone", line, e)
		}
	}
}

// P3.2: an empty queue lets its device fail too, and works on as before.
func TestFailAndPush(t *testing.T) {
	d := device(t, 3, 1, 100)
	q := queue(t, d, 2)
	q.Fail()
	checkTold(t, q, "failed", []api.Line{{}, words(101), words(102)})
	push(t, q, 2, words(7))
	push(t, q, 0, words(8))
	if e := q.Push(1, words(9)); e != api.ErrFull {
		t.Errorf("Push into a full queue: %d; want ErrFull", e)
	}
	checkEntries(t, q, "pushed", 2, 0)
	checkTold(t, q, "pushed", []api.Line{words(8), words(101), words(7)})
	q.Fail()
	checkTold(t, q, "failed again", []api.Line{{}, words(101), words(7)})
}

// P3.3: in whatever order the entries are drained, Read tells the same, and in the end the device has it.
func TestDrainsChangeNothing(t *testing.T) {
	lines := []int{1, 3, 1, 0, 3, 1}
	var walk func(done []int)
	walk = func(done []int) {
		d := device(t, 4, 2, 100)
		q := queue(t, d, len(lines))
		for n, line := range lines {
			push(t, q, line, words(uint64(n)))
		}
		told := []api.Line{words(3), words(5), words(102), words(4)}
		checkTold(t, q, "pushed", told)
		for _, line := range done {
			drain(t, q, line)
			checkTold(t, q, "drained", told)
		}
		if q.Len() == 0 {
			checkDevice(t, d, "all drained", told)
			return
		}
		left := q.Lines()
		slices.Sort(left)
		for _, line := range slices.Compact(left) {
			walk(append(slices.Clone(done), line))
		}
		q.Fail()
		checkDevice(t, d, "failed", []api.Line{{}, {}, told[2], told[3]})
	}
	walk(nil)
}

// plain is a queue and its device as the chapter words them, without a thought of how it is built.
type plain struct {
	volatile, room int
	device         []api.Line
	lines          []int
	data           []api.Line
}

func (p *plain) push(line int, l api.Line) api.Errno {
	switch {
	case line < 0 || line >= len(p.device):
		return api.ErrAddr
	case len(p.lines) == p.room:
		return api.ErrFull
	}
	p.lines, p.data = append(p.lines, line), append(p.data, l)
	return api.OK
}

func (p *plain) drain(line int) api.Errno {
	i := slices.Index(p.lines, line)
	if i < 0 {
		return api.ErrNone
	}
	p.device[line] = p.data[i]
	p.lines, p.data = slices.Delete(p.lines, i, i+1), slices.Delete(p.data, i, i+1)
	return api.OK
}

func (p *plain) fail() {
	for len(p.lines) > 0 {
		p.drain(p.lines[0])
	}
	for i := range p.volatile {
		p.device[i] = api.Line{}
	}
}

func (p *plain) told() []api.Line {
	img := slices.Clone(p.device)
	for i, line := range p.lines {
		img[line] = p.data[i]
	}
	return img
}

// P3.1 to P3.4: long walks of pushes, drains and failures of every kind of queue.
func TestLongWalks(t *testing.T) {
	seed := uint64(1)
	next := func(n int) int {
		seed = seed*6364136223846793005 + 1442695040888963407
		return int(seed >> 33 % uint64(n))
	}
	for walk := range 200 {
		lines := 2 + next(5)
		volatile := 1 + next(lines-1)
		room := 1 + next(api.MaxQueue)
		d := device(t, lines, volatile, 100)
		q := queue(t, d, room)
		p := &plain{volatile: volatile, room: room, device: d.Image()}
		for step := range 150 {
			line := next(lines+2) - 1
			var got, want api.Errno
			switch kind := next(12); {
			case kind < 6:
				l := words(uint64(walk*1000 + step))
				got, want = q.Push(line, l), p.push(line, l)
			case kind < 11 || next(3) > 0:
				got, want = q.Drain(line), p.drain(line)
			default:
				told := q.Image()
				q.Fail()
				p.fail()
				if !slices.Equal(d.Image()[volatile:], told[volatile:]) {
					t.Errorf("walk %d, step %d: behind Fail the device has not what was told", walk, step)
				}
			}
			if got != want {
				t.Errorf("walk %d, step %d, line %d: %d; want %d", walk, step, line, got, want)
			}
			checkEntries(t, q, "walk", p.lines...)
			checkTold(t, q, "walk", p.told())
			checkDevice(t, d, "walk", p.device)
			if t.Failed() {
				return
			}
		}
	}
}

// What is told is new memory, its spare room too.
func TestAnswersAreNew(t *testing.T) {
	d := device(t, 4, 2, 100)
	q := queue(t, d, 5)
	for n, line := range []int{3, 1, 3} {
		push(t, q, line, words(uint64(n)))
	}
	lines, more := q.Lines(), q.Lines()
	img, other := q.Image(), q.Image()
	for i := range lines[:cap(lines)] {
		lines[:cap(lines)][i] = 77
	}
	for i := range img[:cap(img)] {
		img[:cap(img)][i] = words(77)
	}
	want := []api.Line{words(100), words(1), words(102), words(2)}
	checkEntries(t, q, "behind changed answers", 3, 1, 3)
	checkTold(t, q, "behind changed answers", want)
	checkDevice(t, d, "behind changed answers", []api.Line{words(100), words(101), words(102), words(103)})
	q.Fail()
	if !slices.Equal(more, []int{3, 1, 3}) || !slices.Equal(other, want) {
		t.Errorf("answers changed with their queue: %v, %v", more, other)
	}
}

// Queues know nothing of each other's entries, be it that they have one device.
func TestQueuesApart(t *testing.T) {
	d := device(t, 3, 1, 100)
	one, two := queue(t, d, 2), queue(t, d, 2)
	push(t, one, 2, words(1))
	push(t, two, 2, words(2))
	push(t, two, 1, words(3))
	checkTold(t, one, "the one", []api.Line{words(100), words(101), words(1)})
	checkTold(t, two, "the other", []api.Line{words(100), words(3), words(2)})
	drain(t, two, 1)
	checkTold(t, one, "the one", []api.Line{words(100), words(3), words(1)})
	one.Fail()
	checkDevice(t, d, "failed", []api.Line{{}, words(3), words(1)})
	checkEntries(t, two, "the other", 2)
	checkTold(t, two, "the other", []api.Line{{}, words(3), words(2)})
}
