package script_test

import (
	"slices"
	"strings"
	"testing"

	"bellows/api"
	"bellows/script"
)

// ofCores and ofLines are the kinds that have a core, and a line, as the chapter lists them.
var (
	ofCores = []int{api.ActExec, api.ActDrain, api.ActUp, api.ActAns, api.ActDn, api.ActEvict}
	ofLines = []int{api.ActPush, api.ActEvict, api.ActDrop, api.ActMem}
)

// hasForm tells whether the act has a form, by the chapter's words.
func hasForm(a api.Act) bool {
	core, line := a.Core == 0, a.Line == 0
	if slices.Contains(ofCores, a.Kind) {
		core = a.Core >= 0 && a.Core <= 7
	}
	if slices.Contains(ofLines, a.Kind) {
		line = a.Line >= 0 && a.Line <= 63
	}
	return a.Kind >= 1 && a.Kind <= 10 && core && line
}

// numbers are all about the bounds, and far ones.
func numbers() []int {
	l := slices.Clone(none)
	for n := -3; n < 70; n++ {
		l = append(l, n)
	}
	return l
}

// goodActs are all acts that have a form, by kind, core and line.
func goodActs() []api.Act {
	var l []api.Act
	for kind := range 12 {
		for core := range 9 {
			for line := range 65 {
				if a := (api.Act{Kind: kind, Core: core, Line: line}); hasForm(a) {
					l = append(l, a)
				}
			}
		}
	}
	return l
}

// bytesOf are the act's three bytes.
func bytesOf(a api.Act) string {
	return string([]byte{byte(a.Kind), byte(a.Core), byte(a.Line)})
}

type dice uint64

func (d *dice) roll(sides int) int {
	*d = *d*6364136223846793005 + 1442695040888963407
	return int(*d >> 33 % dice(sides))
}

// P16.1: of how many acts of each kind there are, by cores and lines.
func TestGoodCounts(t *testing.T) {
	want := [...]int{0, 8, 8, 8, 8, 8, 64, 8 * 64, 64, 64, 1, 0}
	got := [len(want)]int{}
	for kind := range want {
		for core := -1; core <= 256; core++ {
			for line := -1; line <= 256; line++ {
				if script.Good(api.Act{Kind: kind, Core: core, Line: line}) {
					got[kind]++
				}
			}
		}
	}
	if got != want {
		t.Errorf("%v acts are good; want %v", got, want)
	}
}

// P16.1: the last core and the last line of each kind, and those behind them.
func TestGoodEdges(t *testing.T) {
	for _, x := range []struct {
		a    api.Act
		good bool
	}{
		{api.Act{}, false},
		{api.Act{Kind: -1}, false},
		{api.Act{Kind: 11}, false},
		{api.Act{Kind: 1<<32 + 1}, false},
		{api.Act{Kind: api.ActExec, Core: 7}, true},
		{api.Act{Kind: api.ActExec, Core: 8}, false},
		{api.Act{Kind: api.ActExec, Core: -1}, false},
		{api.Act{Kind: api.ActExec, Line: 1}, false},
		{api.Act{Kind: api.ActDrain, Core: 7}, true},
		{api.Act{Kind: api.ActDrain, Core: 7, Line: 1}, false},
		{api.Act{Kind: api.ActUp, Core: 7}, true},
		{api.Act{Kind: api.ActAns, Core: 7}, true},
		{api.Act{Kind: api.ActDn, Core: 7}, true},
		{api.Act{Kind: api.ActDn, Core: 7, Line: -1}, false},
		{api.Act{Kind: api.ActPush, Line: 63}, true},
		{api.Act{Kind: api.ActPush, Line: 64}, false},
		{api.Act{Kind: api.ActPush, Core: 1}, false},
		{api.Act{Kind: api.ActEvict, Core: 7, Line: 63}, true},
		{api.Act{Kind: api.ActEvict, Core: 8, Line: 63}, false},
		{api.Act{Kind: api.ActEvict, Core: 7, Line: 64}, false},
		{api.Act{Kind: api.ActDrop, Line: 63}, true},
		{api.Act{Kind: api.ActDrop, Line: 63, Core: -1}, false},
		{api.Act{Kind: api.ActMem, Line: 63}, true},
		{api.Act{Kind: api.ActMem, Line: 64}, false},
		{api.Act{Kind: api.ActFail}, true},
		{api.Act{Kind: api.ActFail, Core: 1}, false},
		{api.Act{Kind: api.ActFail, Line: 1}, false},
	} {
		if got := script.Good(x.a); got != x.good {
			t.Errorf("Good(%+v) = %v", x.a, got)
		}
	}
}

// P16.1: all kinds, cores and lines about the bounds and far beyond them: Good, and Encode of that one act.
func TestGoodAndEncode(t *testing.T) {
	l := numbers()
	for _, kind := range l {
		for _, core := range l {
			for _, line := range l {
				a := api.Act{Kind: kind, Core: core, Line: line}
				good := hasForm(a)
				if script.Good(a) != good {
					t.Fatalf("Good(%+v) = %v", a, !good)
				}
				want, err := "", api.ErrForm
				if good {
					want, err = bytesOf(a), api.OK
				}
				if b, e := script.Encode([]api.Act{a}); b != want || e != err {
					t.Fatalf("Encode of %+v: %q, %v; want %q, %v", a, b, e, want, err)
				}
			}
		}
	}
}

// P16.1: the chapter's example, and the bytes of some acts together.
func TestEncodeList(t *testing.T) {
	for _, x := range []struct {
		acts []api.Act
		want string
	}{
		{nil, ""},
		{[]api.Act{}, ""},
		{[]api.Act{{Kind: api.ActExec, Core: 2}}, "\x01\x02\x00"},
		{[]api.Act{{Kind: api.ActFail}, {Kind: api.ActFail}}, "\x0a\x00\x00\x0a\x00\x00"},
		{[]api.Act{{Kind: api.ActEvict, Core: 7, Line: 63}, {Kind: api.ActMem, Line: 13}, {Kind: api.ActDn, Core: 1}}, "\x07\x07\x3f\x09\x00\x0d\x05\x01\x00"},
	} {
		if b, e := script.Encode(x.acts); b != x.want || e != api.OK {
			t.Errorf("Encode(%+v) = %q, %v; want %q", x.acts, b, e, x.want)
		}
	}
}

// P16.1: one act without a form, wherever it stands, and there are no bytes at all.
func TestEncodeOneIsWrong(t *testing.T) {
	acts := []api.Act{{Kind: api.ActExec, Core: 7}, {Kind: api.ActPush, Line: 63}, {Kind: api.ActFail}, {Kind: api.ActDrop}}
	wrong := []api.Act{{}, {Kind: 11}, {Kind: -1}, {Kind: 257}, {Kind: api.ActExec, Core: 8}, {Kind: api.ActExec, Core: 256}, {Kind: api.ActPush, Line: 256}, {Kind: api.ActFail, Line: 1}, {Kind: api.ActMem, Line: -1}}
	for _, a := range wrong {
		for i := range len(acts) + 1 {
			l := slices.Insert(slices.Clone(acts), i, a)
			if b, e := script.Encode(l); b != "" || e != api.ErrForm {
				t.Errorf("Encode(%+v) = %q, %v", l, b, e)
			}
		}
	}
}

// P16.1: of all three bytes that there are.
func TestDecodeAllBytes(t *testing.T) {
	for kind := range 256 {
		for core := range 256 {
			var b []byte
			var want []api.Act
			for line := range 256 {
				b = append(b, byte(kind), byte(core), byte(line))
				if a := (api.Act{Kind: kind, Core: core, Line: line}); hasForm(a) {
					want = append(want, a)
				}
			}
			if got := script.Decode(string(b)); !slices.Equal(got, want) {
				t.Fatalf("kind %d, core %d: %+v; want %+v", kind, core, got, want)
			}
		}
	}
}

// P16.1: what is left behind the last three bytes is let go, and what is no act shifts nothing.
func TestDecodeRest(t *testing.T) {
	exec, evict, fail := api.Act{Kind: api.ActExec, Core: 2}, api.Act{Kind: api.ActEvict, Core: 1, Line: 1}, api.Act{Kind: api.ActFail}
	for _, x := range []struct {
		b    string
		want []api.Act
	}{
		{"", nil},
		{"\x01", nil},
		{"\x0a\x00", nil},
		{"\x0a\x00\x00", []api.Act{fail}},
		{"\x01\x02\x00\x0a", []api.Act{exec}},
		{"\x01\x02\x00\x0a\x00", []api.Act{exec}},
		{"\x01\x02\x00\x0a\x00\x00", []api.Act{exec, fail}},
		{"\x00\x01\x02\x00\x0a\x00\x00", nil},
		{"\x00\x0a\x00\x00\x0a\x00\x0a\x00\x00", []api.Act{fail}},
		{"\xff\xff\xff\x01\x02\x00\x01\x02\x01\x07\x01\x01\x0b\x00\x00", []api.Act{exec, evict}},
		{"\u1234\x07\x01\x01\u1234", []api.Act{evict}},
		{strings.Repeat("\x00", 300), nil},
		{strings.Repeat("\x0a\x00\x00", 3) + "\x0a\x00", []api.Act{fail, fail, fail}},
	} {
		if got := script.Decode(x.b); !slices.Equal(got, x.want) {
			t.Errorf("Decode(%q) = %+v; want %+v", x.b, got, x.want)
		}
	}
}

// P16.2: all acts in one list come back as they were, each alone too.
func TestDecodeOfEncode(t *testing.T) {
	l := goodActs()
	if len(l) != 5*8+3*64+8*64+1 {
		t.Fatalf("%d acts", len(l))
	}
	b, e := script.Encode(l)
	if got := script.Decode(b); e != api.OK || len(b) != 3*len(l) || !slices.Equal(got, l) {
		t.Errorf("%v; %d bytes; %d acts of %d", e, len(b), len(got), len(l))
	}
	for _, a := range l {
		b, e := script.Encode([]api.Act{a})
		if got := script.Decode(b); e != api.OK || len(got) != 1 || got[0] != a {
			t.Errorf("%+v: %v, %+v", a, e, got)
		}
	}
}

// P16.2: rounds of all shapes have a form, and come back.
func TestRoundsAsBytes(t *testing.T) {
	for cores := 1; cores <= 8; cores++ {
		for lines := 1; lines <= 64; lines++ {
			l := script.Round(api.Config{Cores: cores, Lines: lines})
			b, e := script.Encode(l)
			if got := script.Decode(b); e != api.OK || !slices.Equal(got, l) {
				t.Fatalf("%d cores, %d lines: %v, %+v", cores, lines, e, got)
			}
		}
	}
}

// P16.1, P16.2: long lists of acts, and long texts of bytes, beside what the chapter says of each three.
func TestLongLists(t *testing.T) {
	all := goodActs()
	d := dice(16)
	for range 300 {
		var acts, left []api.Act
		var b []byte
		for range d.roll(200) {
			a := all[d.roll(len(all))]
			acts = append(acts, a)
			if d.roll(4) == 0 {
				a = api.Act{Kind: d.roll(14), Core: d.roll(10), Line: d.roll(70)}
			}
			b = append(b, bytesOf(a)...)
			if hasForm(a) {
				left = append(left, a)
			}
		}
		for range d.roll(3) {
			b = append(b, byte(d.roll(256)))
		}
		text, e := script.Encode(acts)
		if got := script.Decode(text); e != api.OK || !slices.Equal(got, acts) {
			t.Fatalf("%v, %+v; want %+v", e, got, acts)
		}
		if got := script.Decode(string(b)); !slices.Equal(got, left) {
			t.Fatalf("Decode(%q) = %+v; want %+v", b, got, left)
		}
	}
}

// Rule 2: what is handed in stays as it was, its spare room too.
func TestEncodeLeavesList(t *testing.T) {
	room := []api.Act{{Kind: api.ActExec, Core: 2}, {Kind: api.ActFail}, {Kind: 99}, {Kind: 98}}
	b, e := script.Encode(room[:2])
	if b != "\x01\x02\x00\x0a\x00\x00" || e != api.OK {
		t.Errorf("%q, %v", b, e)
	}
	if !slices.Equal(room, []api.Act{{Kind: api.ActExec, Core: 2}, {Kind: api.ActFail}, {Kind: 99}, {Kind: 98}}) {
		t.Errorf("the list was changed: %+v", room)
	}
	room[0] = api.Act{}
	if b != "\x01\x02\x00\x0a\x00\x00" {
		t.Errorf("the bytes changed with the list: %q", b)
	}
}

// Rule 2: each list that is told is new memory, its spare room too.
func TestDecodeIsNew(t *testing.T) {
	b := "\x01\x02\x00\x0a\x00\x00\x07\x01\x09"
	want := []api.Act{{Kind: api.ActExec, Core: 2}, {Kind: api.ActFail}, {Kind: api.ActEvict, Core: 1, Line: 9}}
	one, two := script.Decode(b), script.Decode(b)
	one = one[:cap(one)]
	for i := range one {
		one[i] = api.Act{Kind: 99}
	}
	if !slices.Equal(two, want) || !slices.Equal(script.Decode(b), want) {
		t.Errorf("an answer changed with another one: %+v", two)
	}
}
