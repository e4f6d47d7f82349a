package nvm_test

import (
	"math"
	"slices"
	"testing"

	"bellows/api"
	"bellows/nvm"
)

// noLines are numbers of lines that no memory may have; some come to good ones where bits are lost.
var noLines = []int{math.MinInt, math.MinInt + 1, math.MinInt + 4, -64, -4, -1, 0, 1, 65, 66, 128, 1 << 32, 1<<32 + 4, math.MaxInt - 1, math.MaxInt}

// outside are numbers that are no line of a memory of at most 64 lines.
var outside = []int{math.MinInt, math.MinInt + 1, -65, -64, -2, -1, 64, 65, 1 << 32, 1<<32 + 1, math.MaxInt}

func device(t *testing.T, lines, volatile int) *nvm.Device {
	t.Helper()
	d, e := nvm.New(lines, volatile)
	if d == nil || e != api.OK {
		t.Fatalf("New(%d, %d): %v, %d; want a device", lines, volatile, d, e)
	}
	return d
}

// pattern is so many lines, all words of which differ, none 0.
func pattern(lines int, seed uint64) []api.Line {
	img := make([]api.Line, lines)
	for i := range img {
		for w := range img[i] {
			img[i][w] = seed<<32 + uint64(i*api.Words+w) + 1
		}
	}
	return img
}

// full is a device whose lines are pattern(lines, seed), written one by one.
func full(t *testing.T, lines, volatile int, seed uint64) *nvm.Device {
	t.Helper()
	d := device(t, lines, volatile)
	for i, l := range pattern(lines, seed) {
		if e := d.Write(i, l); e != api.OK {
			t.Fatalf("Write(%d) of %d lines: %d", i, lines, e)
		}
	}
	return d
}

// checkLines holds what the device tells, line by line and as an image, against want.
func checkLines(t *testing.T, d *nvm.Device, want []api.Line, what string) {
	t.Helper()
	if img := d.Image(); !slices.Equal(img, want) {
		t.Errorf("%s: image %v; want %v", what, img, want)
	}
	for i, l := range want {
		if got, e := d.Read(i); got != l || e != api.OK {
			t.Errorf("%s: Read(%d): %v, %d; want %v", what, i, got, e, l)
		}
	}
}

// P2.1: every shape that there is, all words 0, and the shapes beside them.
func TestNewEveryShape(t *testing.T) {
	for lines := -2; lines <= api.MaxLines+2; lines++ {
		for volatile := -2; volatile <= lines+2; volatile++ {
			good := lines >= 2 && lines <= 64 && volatile >= 1 && volatile < lines
			d, e := nvm.New(lines, volatile)
			if !good {
				if d != nil || e != api.ErrArg {
					t.Errorf("New(%d, %d): %v, %d; want nil, ErrArg", lines, volatile, d, e)
				}
				continue
			}
			if d == nil || e != api.OK {
				t.Fatalf("New(%d, %d): %v, %d; want a device", lines, volatile, d, e)
			}
			checkLines(t, d, make([]api.Line, lines), "new")
		}
	}
}

// P2.1: numbers far from those of any memory.
func TestNewWrong(t *testing.T) {
	for _, lines := range noLines {
		for _, volatile := range []int{math.MinInt, -1, 0, 1, 2, 63, 1<<32 + 1, math.MaxInt} {
			if d, e := nvm.New(lines, volatile); d != nil || e != api.ErrArg {
				t.Errorf("New(%d, %d): %v, %d; want nil, ErrArg", lines, volatile, d, e)
			}
		}
	}
	for _, volatile := range []int{math.MinInt, math.MinInt + 1, -63, -1, 0, 4, 5, 64, 1 << 32, 1<<32 + 1, math.MaxInt} {
		if d, e := nvm.New(4, volatile); d != nil || e != api.ErrArg {
			t.Errorf("New(4, %d): %v, %d; want nil, ErrArg", volatile, d, e)
		}
	}
}

// P2.1: what is written is read, and nothing else is written.
func TestReadWrite(t *testing.T) {
	for _, lines := range []int{2, 3, 4, 63, 64} {
		for at := range lines {
			d := full(t, lines, 1, 1)
			want := pattern(lines, 1)
			want[at] = api.Line{math.MaxUint64, 0, 1 << 63, 7, 6, 5, 4, 3}
			if e := d.Write(at, want[at]); e != api.OK {
				t.Errorf("Write(%d) of %d lines: %d", at, lines, e)
			}
			checkLines(t, d, want, "written")
		}
	}
}

// P2.1: the last writing of a line holds; reading changes nothing.
func TestWriteAgain(t *testing.T) {
	d := device(t, 4, 2)
	for n := range uint64(5) {
		if e := d.Write(2, api.Line{n, n + 1}); e != api.OK {
			t.Fatalf("Write(2): %d", e)
		}
		for range 2 {
			checkLines(t, d, []api.Line{{}, {}, {n, n + 1}, {}}, "again")
		}
	}
}

// P2.1: a line that there is not is neither read nor written.
func TestNoSuchLine(t *testing.T) {
	for _, lines := range []int{2, 4, 63, 64} {
		d := full(t, lines, 1, 2)
		for _, line := range append(slices.Clone(outside), lines, lines+1) {
			if l, e := d.Read(line); l != (api.Line{}) || e != api.ErrAddr {
				t.Errorf("Read(%d) of %d lines: %v, %d; want ErrAddr", line, lines, l, e)
			}
			if e := d.Write(line, api.Line{9, 9}); e != api.ErrAddr {
				t.Errorf("Write(%d) of %d lines: %d; want ErrAddr", line, lines, e)
			}
		}
		checkLines(t, d, pattern(lines, 2), "behind wrong lines")
	}
}

// P2.1: of nil every call that has an error answers ErrArg, the others nothing.
func TestNil(t *testing.T) {
	var d *nvm.Device
	for _, line := range append(slices.Clone(outside), 0, 1, 63) {
		if l, e := d.Read(line); l != (api.Line{}) || e != api.ErrArg {
			t.Errorf("Read(%d) of nil: %v, %d; want ErrArg", line, l, e)
		}
		if e := d.Write(line, api.Line{1}); e != api.ErrArg {
			t.Errorf("Write(%d) of nil: %d; want ErrArg", line, e)
		}
	}
	d.Fail()
	if img := d.Image(); len(img) != 0 {
		t.Errorf("Image of nil: %v; want none", img)
	}
	for _, img := range [][]api.Line{nil, {}, {{1}}, pattern(4, 1)} {
		if e := d.Restore(img); e != api.ErrArg {
			t.Errorf("Restore of nil, %d lines: %d; want ErrArg", len(img), e)
		}
	}
}

// P2.2 and P2.3: of every shape the first lines forget, the others do not, however often the power fails.
func TestFail(t *testing.T) {
	for lines := 2; lines <= api.MaxLines; lines++ {
		for volatile := 1; volatile < lines; volatile++ {
			d := full(t, lines, volatile, 3)
			want := pattern(lines, 3)
			clear(want[:volatile])
			for range 2 {
				d.Fail()
				if img := d.Image(); !slices.Equal(img, want) {
					t.Fatalf("%d lines, %d of them forget: %v; want %v", lines, volatile, img, want)
				}
			}
		}
	}
}

// P2.2: the chapter's example; and lines that forgot are written again, and forget again.
func TestFailAndWrite(t *testing.T) {
	d := full(t, 4, 2, 4)
	p := pattern(4, 4)
	d.Fail()
	checkLines(t, d, []api.Line{{}, {}, p[2], p[3]}, "failed")
	for i := range 4 {
		if e := d.Write(i, api.Line{7: uint64(i) + 50}); e != api.OK {
			t.Errorf("Write(%d): %d", i, e)
		}
	}
	checkLines(t, d, []api.Line{{7: 50}, {7: 51}, {7: 52}, {7: 53}}, "written")
	d.Fail()
	checkLines(t, d, []api.Line{{}, {}, {7: 52}, {7: 53}}, "failed again")
}

// P2.2: an image that is restored is all lines, of whichever device it was.
func TestRestore(t *testing.T) {
	for _, lines := range []int{2, 3, 4, 63, 64} {
		d := full(t, lines, lines-1, 5)
		was := d.Image()
		d.Fail()
		if e := d.Restore(was); e != api.OK {
			t.Errorf("Restore of %d lines: %d", lines, e)
		}
		checkLines(t, d, pattern(lines, 5), "restored")
		other := device(t, lines, 1)
		if e := other.Restore(was); e != api.OK {
			t.Errorf("Restore of %d lines in another one: %d", lines, e)
		}
		checkLines(t, other, pattern(lines, 5), "restored in another one")
		if e := other.Restore(make([]api.Line, lines)); e != api.OK {
			t.Errorf("Restore of %d empty lines: %d", lines, e)
		}
		checkLines(t, other, make([]api.Line, lines), "empty again")
		checkLines(t, d, pattern(lines, 5), "the first one")
	}
}

// P2.2: behind Restore the same lines forget as before.
func TestRestoreAndFail(t *testing.T) {
	d := device(t, 5, 2)
	p := pattern(5, 6)
	if e := d.Restore(p); e != api.OK {
		t.Fatalf("Restore: %d", e)
	}
	d.Fail()
	checkLines(t, d, []api.Line{{}, {}, p[2], p[3], p[4]}, "failed")
}

// P2.2: an image of more or fewer lines is not taken, and changes nothing.
func TestRestoreWrong(t *testing.T) {
	for _, lines := range []int{2, 4, 63, 64} {
		d := full(t, lines, 1, 7)
		for n := range 130 {
			if n == lines {
				continue
			}
			if e := d.Restore(pattern(n, 8)); e != api.ErrArg {
				t.Errorf("Restore of %d lines in %d: %d; want ErrArg", n, lines, e)
			}
		}
		if e := d.Restore(nil); e != api.ErrArg {
			t.Errorf("Restore of nil in %d: %d; want ErrArg", lines, e)
		}
		if e := d.Restore(pattern(lines+4, 8)[:lines-1]); e != api.ErrArg {
			t.Errorf("Restore of a short image with room in %d: %d; want ErrArg", lines, e)
		}
		checkLines(t, d, pattern(lines, 7), "behind wrong images")
	}
}

// What is told is new memory, its spare room too.
func TestImageIsNew(t *testing.T) {
	d := full(t, 4, 2, 9)
	one, two := d.Image(), d.Image()
	for i := range one[:cap(one)] {
		one[:cap(one)][i] = api.Line{99}
	}
	if !slices.Equal(two, pattern(4, 9)) {
		t.Errorf("another image: %v", two)
	}
	checkLines(t, d, pattern(4, 9), "behind a changed image")
	if e := d.Write(3, api.Line{5}); e != api.OK {
		t.Errorf("Write: %d", e)
	}
	d.Fail()
	if !slices.Equal(two, pattern(4, 9)) {
		t.Errorf("an image changed with its device: %v", two)
	}
}

// What is handed in is neither kept nor changed, its spare room included.
func TestRestoreKeepsNothing(t *testing.T) {
	d := device(t, 4, 2)
	room := pattern(6, 10)
	img := room[:4]
	if e := d.Restore(img); e != api.OK {
		t.Fatalf("Restore: %d", e)
	}
	d.Fail()
	if e := d.Write(3, api.Line{5}); e != api.OK {
		t.Errorf("Write: %d", e)
	}
	if !slices.Equal(room, pattern(6, 10)) {
		t.Errorf("the image that was handed in: %v", room)
	}
	img[2] = api.Line{77}
	p := pattern(6, 10)
	checkLines(t, d, []api.Line{{}, {}, p[2], {5}}, "behind a changed argument")
}

// Devices know nothing of each other.
func TestDevicesApart(t *testing.T) {
	a, b := full(t, 4, 2, 11), full(t, 4, 2, 12)
	a.Fail()
	checkLines(t, b, pattern(4, 12), "the other one")
	if e := b.Write(3, api.Line{1}); e != api.OK {
		t.Errorf("Write: %d", e)
	}
	p := pattern(4, 11)
	checkLines(t, a, []api.Line{{}, {}, p[2], p[3]}, "the one")
}
