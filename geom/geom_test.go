package geom_test

import (
	"math"
	"slices"
	"testing"

	"bellows/api"
	"bellows/geom"
)

// around is all numbers about the bounds of sets, lines and cores, and far beyond them; some come to small ones where bits are lost.
func around() []int {
	l := []int{
		math.MinInt, math.MinInt + 1, math.MinInt + 3, math.MinInt + 8, -1 << 32, -1<<32 + 2, -1 << 31, -256, -255,
		255, 256, 257, 1 << 31, 1 << 32, 1<<32 + 1, 1<<32 + 4, math.MaxInt - 1, math.MaxInt,
	}
	for n := -70; n <= 70; n++ {
		l = append(l, n)
	}
	return l
}

// masks is each mask with its cores, counted up by hand: the mask behind one is that one and 1.
func masks() [256][]int {
	var all [256][]int
	var bits [8]bool
	for mask := range all {
		for core, set := range bits {
			if set {
				all[mask] = append(all[mask], core)
			}
		}
		for core := range bits {
			bits[core] = !bits[core]
			if bits[core] {
				break
			}
		}
	}
	return all
}

func checkSet(t *testing.T, sets, line, want int) {
	t.Helper()
	if got := geom.Set(sets, line); got != want {
		t.Errorf("Set(%d, %d): %d; want %d", sets, line, got, want)
	}
}

// P4.1: from line to line the set is the next one, and behind the last one the first.
func TestSetOfEachLine(t *testing.T) {
	for _, sets := range []int{1, 2, 4, 8} {
		want := 0
		for line := range 1000 {
			checkSet(t, sets, line, want)
			want++
			if want == sets {
				want = 0
			}
		}
	}
}

// P4.1: lines far above those of a memory have a set too.
func TestSetOfGreatLines(t *testing.T) {
	for _, sets := range []int{1, 2, 4, 8} {
		checkSet(t, sets, math.MaxInt, sets-1)
		checkSet(t, sets, math.MaxInt-1, max(sets-2, 0))
		checkSet(t, sets, math.MaxInt-sets+1, 0)
		checkSet(t, sets, 1<<32, 0)
		checkSet(t, sets, 1<<32+1, 1%sets)
	}
}

// P4.1: a line below 0, and a number of sets that there is not, have the set 0.
func TestSetWrong(t *testing.T) {
	for _, sets := range around() {
		isSets := sets == 1 || sets == 2 || sets == 4 || sets == 8
		for _, line := range around() {
			if line < 0 || !isSets {
				checkSet(t, sets, line, 0)
			}
		}
	}
}

// P4.1: each core has a bit of its own, the next one twice the last; what is no core has none.
func TestBit(t *testing.T) {
	want := map[int]uint8{0: 1, 1: 2, 2: 4, 3: 8, 4: 16, 5: 32, 6: 64, 7: 128}
	if len(want) != api.MaxCores {
		t.Fatalf("%d cores; want %d", len(want), api.MaxCores)
	}
	for _, core := range around() {
		if got := geom.Bit(core); got != want[core] {
			t.Errorf("Bit(%d): %d; want %d", core, got, want[core])
		}
	}
}

// P4.1: each mask has its cores and no others; what is no core is in none.
func TestHas(t *testing.T) {
	for mask, cores := range masks() {
		for _, core := range around() {
			want := slices.Contains(cores, core)
			if got := geom.Has(uint8(mask), core); got != want {
				t.Errorf("Has(%d, %d): %v; want %v", mask, core, got, want)
			}
		}
	}
}

// P4.1: the chapter's example, and masks with few, many and all cores.
func TestCoresExamples(t *testing.T) {
	for _, x := range []struct {
		mask uint8
		want []int
	}{
		{5, []int{0, 2}},
		{0, nil},
		{1, []int{0}},
		{128, []int{7}},
		{129, []int{0, 7}},
		{24, []int{3, 4}},
		{127, []int{0, 1, 2, 3, 4, 5, 6}},
		{254, []int{1, 2, 3, 4, 5, 6, 7}},
		{255, []int{0, 1, 2, 3, 4, 5, 6, 7}},
	} {
		if got := geom.Cores(x.mask); !slices.Equal(got, x.want) {
			t.Errorf("Cores(%d): %v; want %v", x.mask, got, x.want)
		}
	}
}

// P4.1: of each mask its cores, rising, how many, and the least one; -1 where there is none.
func TestEachMask(t *testing.T) {
	for m, cores := range masks() {
		mask := uint8(m)
		if got := geom.Cores(mask); !slices.Equal(got, cores) {
			t.Errorf("Cores(%d): %v; want %v", mask, got, cores)
		}
		if got := geom.Count(mask); got != len(cores) {
			t.Errorf("Count(%d): %d; want %d", mask, got, len(cores))
		}
		first := -1
		if len(cores) > 0 {
			first = cores[0]
		}
		if got := geom.First(mask); got != first {
			t.Errorf("First(%d): %d; want %d", mask, got, first)
		}
	}
}

// P4.2: the bits of a mask's cores come to the mask, each of them needed.
func TestMaskOfCores(t *testing.T) {
	for m := range 256 {
		mask, sum := uint8(m), 0
		var all uint8
		for _, core := range geom.Cores(mask) {
			all |= geom.Bit(core)
			sum += int(geom.Bit(core))
		}
		if all != mask || sum != m {
			t.Errorf("the cores of %d come to %d, one by one to %d", mask, all, sum)
		}
	}
}

// P4.2: whatever cores are put together, in whatever order, the mask of their bits has these.
func TestCoresOfMask(t *testing.T) {
	for _, want := range masks() {
		var mask uint8
		for _, core := range slices.Backward(want) {
			mask |= geom.Bit(core)
		}
		if got := geom.Cores(mask); !slices.Equal(got, want) {
			t.Errorf("Cores of the bits of %v: %v", want, got)
		}
	}
}

// What is told is new memory, its spare room too.
func TestCoresAreNew(t *testing.T) {
	for m := range 256 {
		mask := uint8(m)
		one, two := geom.Cores(mask), geom.Cores(mask)
		for i := range one[:cap(one)] {
			one[:cap(one)][i] = 77
		}
		if three := geom.Cores(mask); slices.Contains(two[:cap(two)], 77) || !slices.Equal(two, three) || slices.Contains(three, 77) {
			t.Errorf("Cores(%d) behind a changed answer: %v, %v", mask, two, three)
		}
	}
}
