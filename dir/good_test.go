package dir_test

import (
	"math"
	"testing"

	"bellows/api"
	"bellows/dir"
)

func isCore(n int) bool { return n >= 0 && n <= 7 }

// rules is what the chapter asks of a good entry, one by one.
var rules = []struct {
	name  string
	holds func(e dir.Entry) bool
}{
	{"Owner from -1 to 7", func(e dir.Entry) bool { return e.Owner == -1 || isCore(e.Owner) }},
	{"Dirty only if Here", func(e dir.Entry) bool { return e.Here || !e.Dirty }},
	{"with an Owner Share is 0", func(e dir.Entry) bool { return e.Owner == -1 || e.Share == 0 }},
	{"an Owner or Share only if Here", func(e dir.Entry) bool { return e.Here || e.Owner == -1 && e.Share == 0 }},
	{"Wait has only the Owner and cores of Share", func(e dir.Entry) bool {
		for core := range 8 {
			if e.Wait>>core%2 == 1 && e.Share>>core%2 == 0 && e.Owner != core {
				return false
			}
		}
		return true
	}},
	{"without Busy By and Wait are 0", func(e dir.Entry) bool { return e.Busy != 0 || e.By == 0 && e.Wait == 0 }},
	{"Busy one of the four", func(e dir.Entry) bool {
		return e.Busy == 0 || e.Busy == api.GetS || e.Busy == api.GetM || e.Busy == api.Clean || e.Busy == api.Wipe
	}},
	{"By a core", func(e dir.Entry) bool { return isCore(e.By) }},
	{"if Busy, Here", func(e dir.Entry) bool { return e.Busy == 0 || e.Here }},
	{"with Busy GetS or GetM Wait is not 0", func(e dir.Entry) bool { return e.Busy != api.GetS && e.Busy != api.GetM || e.Wait != 0 }},
	{"without Here Data is zero", func(e dir.Entry) bool { return e.Here || e.Data == api.Line{} }},
}

// broken tells which rules the entry breaks.
func broken(e dir.Entry) []string {
	var l []string
	for _, r := range rules {
		if !r.holds(e) {
			l = append(l, r.name)
		}
	}
	return l
}

func checkGood(t *testing.T, e dir.Entry) {
	t.Helper()
	l := broken(e)
	if got := dir.Good(e); got != (len(l) == 0) {
		t.Errorf("Good(%+v): %v; it breaks %q", e, got, l)
	}
	ready := len(l) == 0 && (e.Busy == api.Clean || e.Busy == api.Wipe) && e.Wait == 0
	if got := dir.Ready(e); got != ready {
		t.Errorf("Ready(%+v): %v; want %v; it breaks %q", e, got, ready, l)
	}
}

// P7.1: good and wrong fields of all kinds, each with each; each rule is broken alone by some of them, so that none of them may be left out.
func TestGoodEachWithEach(t *testing.T) {
	owners := []int{math.MinInt, -2, -1, 0, 1, 4, 6, 7, 8, 256, 1<<32 + 1}
	masks := []uint8{0, 1, 2, 3, 4, 8, 0x10, 0x40, 0x7f, 0x80, 0x81, 0xfe, 0xff}
	alone := map[string]int{}
	good := 0
	for _, data := range []api.Line{{}, {7: 1}} {
		for bits := range 4 {
			for _, owner := range owners {
				for _, share := range masks {
					for _, wait := range masks {
						for _, kind := range []int{0, api.GetS, api.GetM, api.Put, api.Clean, api.Wipe, api.InvAck, -1, 256 + api.Clean} {
							for _, by := range []int{-1, 0, 1, 7, 8, 1 << 32} {
								e := dir.Entry{Here: bits%2 == 1, Dirty: bits/2 == 1, Data: data, Owner: owner, Share: share, Busy: kind, By: by, Wait: wait}
								checkGood(t, e)
								if l := broken(e); len(l) == 1 {
									alone[l[0]]++
								} else if len(l) == 0 {
									good++
								}
							}
						}
					}
				}
			}
		}
		if t.Failed() {
			return
		}
	}
	for _, r := range rules {
		if alone[r.name] == 0 {
			t.Errorf("no entry breaks this rule alone: %s", r.name)
		}
	}
	if good == 0 {
		t.Error("no entry was good")
	}
}

// P7.1: the entries that the other tests go on from are good.
func TestGoodOnes(t *testing.T) {
	for _, e := range append(quiet(), waiting()...) {
		checkGood(t, e)
		if !dir.Good(e) {
			t.Errorf("Good(%+v): false", e)
		}
	}
}

// P7.1: By is a core, and Busy one of the four, among all numbers near and some far ones.
func TestGoodNumbers(t *testing.T) {
	numbers := append([]int{-1 << 31, 1 << 31, 1<<32 + api.Clean, -1<<32 + api.Wipe, math.MinInt + api.Clean}, noCores...)
	for n := -300; n <= 300; n++ {
		numbers = append(numbers, n)
	}
	for _, n := range numbers {
		checkGood(t, busy(here(-1, 0), api.Clean, n, 0))
		checkGood(t, busy(here(-1, 6), n, 2, 0))
		checkGood(t, busy(here(-1, 6), n, 2, 2))
		checkGood(t, busy(here(3, 0), n, 2, 8))
		checkGood(t, here(n, 0))
		checkGood(t, dir.Entry{Owner: n})
		checkGood(t, busy(here(-1, 0), 0, n, 0))
	}
}

// P7.1: without Here each word is 0; with Here it may be any.
func TestGoodEachWord(t *testing.T) {
	for w := range 8 {
		for _, v := range []uint64{1, 1 << 31, 1 << 32, 1 << 63, math.MaxUint64} {
			var l api.Line
			l[w] = v
			if dir.Good(dir.Entry{Owner: -1, Data: l}) || !dir.Good(dir.Entry{Here: true, Owner: -1, Data: l}) {
				t.Errorf("word %d: %d", w, v)
			}
		}
	}
}

// P7.1: nothing is known of an empty entry; it is good, and not ready.
func TestEmpty(t *testing.T) {
	e := dir.Empty()
	if e != (dir.Entry{Owner: -1}) || !dir.Good(e) || dir.Ready(e) {
		t.Errorf("Empty: %+v, good %v, ready %v", e, dir.Good(e), dir.Ready(e))
	}
	e.Owner = 3
	if again := dir.Empty(); again.Owner != -1 {
		t.Errorf("Empty behind a changed answer: %+v", again)
	}
	if dir.Good(dir.Entry{}) {
		t.Error("an entry that is zero has core 0 as its Owner, and is not here: good")
	}
}

// P7.1: ready is what is flushed and waits for nobody, whoever has the line; the other kinds never are.
func TestReady(t *testing.T) {
	for _, c := range []struct {
		e    dir.Entry
		want bool
	}{
		{busy(here(-1, 0), api.Clean, 0, 0), true},
		{busy(here(-1, 0x81), api.Clean, 7, 0), true},
		{busy(here(4, 0), api.Clean, 4, 0), true},
		{busy(here(-1, 0), api.Wipe, 5, 0), true},
		{busy(here(-1, 0xff), api.Wipe, 0, 0), true},
		{busy(here(4, 0), api.Clean, 4, 16), false},
		{busy(here(-1, 3), api.Wipe, 0, 2), false},
		{busy(here(-1, 3), api.GetM, 0, 2), false},
		{busy(here(3, 0), api.GetS, 0, 8), false},
		{busy(here(-1, 3), api.GetM, 0, 0), false},
		{busy(here(3, 0), api.GetS, 0, 0), false},
		{busy(here(-1, 0), api.Clean, 8, 0), false},
		{busy(here(-1, 0), api.Clean, -1, 0), false},
		{busy(here(2, 1), api.Wipe, 0, 0), false},
		{busy(dir.Empty(), api.Wipe, 0, 0), false},
		{here(-1, 0), false},
		{here(3, 0), false},
	} {
		if got := dir.Ready(c.e); got != c.want {
			t.Errorf("Ready(%+v): %v; want %v", c.e, got, c.want)
		}
	}
}
