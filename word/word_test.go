package word_test

import (
	"math"
	"testing"

	"bellows/api"
	"bellows/word"
)

// noLines are numbers of lines that no memory has.
var noLines = []int{math.MinInt, math.MinInt + 64, -64, -1, 0, 65, 66, 128, 1 << 32, 1<<32 + 4, math.MaxInt}

// noWords are words that no line has.
var noWords = []int{math.MinInt, math.MinInt + 1, -8, -1, 8, 9, 16, 1 << 32, 1<<32 + 1, math.MaxInt}

// noAddrs are addresses that no memory has; most of them come to small ones where bits are lost.
var noAddrs = []uint64{
	1, 7, 9, 4087, 4089, 4096, 4097, 4160, 8192, 1 << 31, 1 << 32, 1<<32 + 72, 1<<32 + 1, 1 << 37, 1 << 38, 1 << 62,
	1 << 63, 1<<63 + 8, 1<<63 + 72, math.MaxUint64 - 63, math.MaxUint64 - 7, math.MaxUint64 - 1, math.MaxUint64,
}

func checkAt(t *testing.T, lines int, addr uint64, line, w int, e api.Errno) {
	t.Helper()
	gotLine, gotWord, gotErr := word.At(lines, addr)
	if gotLine != line || gotWord != w || gotErr != e {
		t.Errorf("At(%d, %d): %d, %d, %d; want %d, %d, %d", lines, addr, gotLine, gotWord, gotErr, line, w, e)
	}
}

// P1.1: the chapter's examples, and the ends of memories.
func TestAtExamples(t *testing.T) {
	checkAt(t, 4, 72, 1, 1, api.OK)
	checkAt(t, 4, 73, 0, 0, api.ErrAddr)
	checkAt(t, 4, 0, 0, 0, api.OK)
	checkAt(t, 4, 56, 0, 7, api.OK)
	checkAt(t, 4, 64, 1, 0, api.OK)
	checkAt(t, 4, 248, 3, 7, api.OK)
	checkAt(t, 4, 256, 0, 0, api.ErrAddr)
	checkAt(t, 1, 56, 0, 7, api.OK)
	checkAt(t, 1, 64, 0, 0, api.ErrAddr)
	checkAt(t, 64, 4088, 63, 7, api.OK)
	checkAt(t, 64, 4096, 0, 0, api.ErrAddr)
}

// P1.1: each byte of each memory, and of the line behind it.
func TestAtEveryByte(t *testing.T) {
	for lines := 1; lines <= api.MaxLines; lines++ {
		addr := uint64(0)
		for line := 0; line <= lines; line++ {
			for w := range 8 {
				if line < lines {
					checkAt(t, lines, addr, line, w, api.OK)
				} else {
					checkAt(t, lines, addr, 0, 0, api.ErrAddr)
				}
				for odd := uint64(1); odd < 8; odd++ {
					checkAt(t, lines, addr+odd, 0, 0, api.ErrAddr)
				}
				addr += 8
			}
		}
	}
}

// P1.1: addresses that there are not, in the least, a middle and the greatest memory.
func TestAtNoAddress(t *testing.T) {
	for _, lines := range []int{1, 4, api.MaxLines} {
		for _, addr := range noAddrs {
			checkAt(t, lines, addr, 0, 0, api.ErrAddr)
		}
	}
}

// P1.1: a memory that there is not is told ahead of an address that there is not.
func TestAtNoMemory(t *testing.T) {
	for _, lines := range noLines {
		for _, addr := range []uint64{0, 8, 72, 4088} {
			checkAt(t, lines, addr, 0, 0, api.ErrArg)
		}
		for _, addr := range noAddrs {
			checkAt(t, lines, addr, 0, 0, api.ErrArg)
		}
	}
}

// P1.1: addresses rise by 8 from word to word, without a gap between lines.
func TestAddrEveryPlace(t *testing.T) {
	want := uint64(0)
	for line := range 64 {
		for w := range 8 {
			if got := word.Addr(line, w); got != want {
				t.Errorf("Addr(%d, %d): %d; want %d", line, w, got, want)
			}
			want += 8
		}
	}
}

// P1.1: a line or a word that there is not has address 0, whatever the other one is.
func TestAddrNoPlace(t *testing.T) {
	badLines := []int{math.MinInt, -64, -1, 64, 65, 1 << 32, 1<<32 + 1, 1 << 58, 1<<58 + 1, math.MaxInt}
	for _, line := range badLines {
		for _, w := range append([]int{0, 1, 7}, noWords...) {
			if got := word.Addr(line, w); got != 0 {
				t.Errorf("Addr(%d, %d): %d; want 0", line, w, got)
			}
		}
	}
	for _, w := range noWords {
		for _, line := range []int{0, 1, 62, 63} {
			if got := word.Addr(line, w); got != 0 {
				t.Errorf("Addr(%d, %d): %d; want 0", line, w, got)
			}
		}
	}
}

// P1.2: a word is told as it stands, its high bits too.
func TestGet(t *testing.T) {
	l := api.Line{1, 1 << 63, math.MaxUint64, 4, 0, 1 << 32, 7, 8}
	for w := range l {
		if got := word.Get(l, w); got != l[w] {
			t.Errorf("Get(%d): %d; want %d", w, got, l[w])
		}
	}
	for _, w := range noWords {
		if got := word.Get(l, w); got != 0 {
			t.Errorf("Get(%d): %d; want 0", w, got)
		}
	}
}

// P1.2: one word becomes v, all others stay, and the line that was handed in stays whole.
func TestPut(t *testing.T) {
	first := api.Line{11, 12, 13, 14, 15, 16, 17, 18}
	for _, v := range []uint64{0, 99, 1 << 63, math.MaxUint64} {
		for w := range 8 {
			l := first
			want := first
			want[w] = v
			if got := word.Put(l, w, v); got != want {
				t.Errorf("Put(%d, %d): %v; want %v", w, v, got, want)
			}
			if l != first {
				t.Errorf("Put(%d, %d) changed what was handed in: %v", w, v, l)
			}
		}
	}
}

// P1.2: a word that there is not leaves the line itself.
func TestPutNoPlace(t *testing.T) {
	l := api.Line{11, 12, 13, 14, 15, 16, 17, 18}
	for _, w := range noWords {
		if got := word.Put(l, w, 99); got != l {
			t.Errorf("Put(%d): %v; want %v", w, got, l)
		}
	}
}

// P1.2: what was put is what is got, and only there.
func TestGetOfPut(t *testing.T) {
	for w := range 8 {
		l := word.Put(api.Line{}, w, 5)
		for other := range 8 {
			want := uint64(0)
			if other == w {
				want = 5
			}
			if got := word.Get(l, other); got != want {
				t.Errorf("Get(Put(%d), %d): %d; want %d", w, other, got, want)
			}
		}
	}
}

// someShape has room below and above in every field.
func someShape() api.Config {
	return api.Config{Cores: 2, Lines: 8, Volatile: 2, Sets: 2, Ways: 2, Queue: 3, Store: 4}
}

// P1.2: the least, the greatest and a middle shape; the zero one is none.
func TestGoodShapes(t *testing.T) {
	for _, c := range []api.Config{
		someShape(),
		{Cores: 1, Lines: 2, Volatile: 1, Sets: 1, Ways: 1, Queue: 1, Store: 1},
		{Cores: 8, Lines: 64, Volatile: 63, Sets: 8, Ways: 8, Queue: 16, Store: 16},
		{Cores: 8, Lines: 64, Volatile: 1, Sets: 4, Ways: 1, Queue: 16, Store: 1},
	} {
		if !word.Good(c) {
			t.Errorf("Good(%v): false", c)
		}
	}
	if word.Good(api.Config{}) {
		t.Error("the zero shape is good")
	}
}

// P1.2: each field alone, below its bounds, between them and above them.
func TestGoodEachField(t *testing.T) {
	oneToSixteen := []int{1, 2, 3, 4, 5, 6, 7, 8, 9, 10, 11, 12, 13, 14, 15, 16}
	for _, f := range []struct {
		name  string
		field func(c *api.Config) *int
		good  []int
	}{
		{"Cores", func(c *api.Config) *int { return &c.Cores }, oneToSixteen[:8]},
		{"Volatile", func(c *api.Config) *int { return &c.Volatile }, oneToSixteen[:7]},
		{"Sets", func(c *api.Config) *int { return &c.Sets }, []int{1, 2, 4, 8}},
		{"Ways", func(c *api.Config) *int { return &c.Ways }, oneToSixteen[:8]},
		{"Queue", func(c *api.Config) *int { return &c.Queue }, oneToSixteen},
		{"Store", func(c *api.Config) *int { return &c.Store }, oneToSixteen},
	} {
		isGood := map[int]bool{}
		for _, n := range f.good {
			isGood[n] = true
		}
		for _, n := range shapeNumbers() {
			c := someShape()
			*f.field(&c) = n
			if got := word.Good(c); got != isGood[n] {
				t.Errorf("Good with %s %d: %v", f.name, n, got)
			}
		}
	}
}

// P1.2: how many lines forget hangs on how many there are.
func TestGoodLinesAndVolatile(t *testing.T) {
	for _, lines := range shapeNumbers() {
		for _, volatile := range shapeNumbers() {
			c := someShape()
			c.Lines, c.Volatile = lines, volatile
			want := lines >= 2 && lines <= 64 && volatile >= 1 && volatile < lines
			if got := word.Good(c); got != want {
				t.Errorf("Good with Lines %d, Volatile %d: %v", lines, volatile, got)
			}
		}
	}
}

// shapeNumbers are those around all bounds, and far beyond them.
func shapeNumbers() []int {
	l := []int{math.MinInt, math.MinInt + 1, -1 << 32, 1 << 32, 1<<32 + 2, math.MaxInt - 1, math.MaxInt}
	for n := -9; n <= 70; n++ {
		l = append(l, n)
	}
	return l
}

// P1.3: there and back, in each memory that has the line; a memory that ends ahead of it has no such address.
func TestAtOfAddr(t *testing.T) {
	for line := range api.MaxLines {
		for w := range api.Words {
			addr := word.Addr(line, w)
			for lines := 1; lines <= api.MaxLines; lines++ {
				if line < lines {
					checkAt(t, lines, addr, line, w, api.OK)
				} else {
					checkAt(t, lines, addr, 0, 0, api.ErrAddr)
				}
			}
		}
	}
}
