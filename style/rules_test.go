package style_test

import (
	"math/rand/v2"
	"slices"
	"strings"
	"testing"
	"unsafe"

	"surtitle/api"
	"surtitle/style"
)

// TestNormIsNormal: P711: Norm changes no look, and Norm of that is the same; texts are alike just where their normal forms are the same.
func TestNormIsNormal(t *testing.T) {
	m := newMaker(4)
	for range 5000 {
		x := m.text(6, 6)
		y := m.over(x.S, 6)
		n, e := style.Norm(x)
		again, f := style.Norm(n)
		if e != api.OK || f != api.OK || !style.Same(x, n) || !slices.Equal(n.Spans, again.Spans) {
			t.Fatalf("%+v: %+v, %v; then %+v, %v", x, n, e, again, f)
		}
		o, _ := style.Norm(y)
		if style.Same(x, y) != slices.Equal(n.Spans, o.Spans) {
			t.Fatalf("%+v and %+v: %v; %+v and %+v", x, y, style.Same(x, y), n, o)
		}
	}
}

// TestRunsOfMake: P711: Runs of Make are the runs, those that look alike and stand side by side put together.
func TestRunsOfMake(t *testing.T) {
	m := newMaker(5)
	for range 5000 {
		s := m.string(12)
		signs := len(signsIn(s))
		var runs, want []api.Run
		for at := 0; at < signs; {
			to := at + 1 + m.dice.IntN(signs-at)
			r := run(at, to, api.Attr{Bold: m.half(), Italic: m.half(), Under: m.half(), Strike: m.half(), Colour: m.dice.IntN(3)})
			runs = append(runs, r)
			if last := len(want) - 1; last >= 0 && want[last].Attr == r.Attr {
				want[last].To = to
			} else {
				want = append(want, r)
			}
			at = to
		}
		x, e := style.Make(s, runs)
		got, f := style.Runs(x)
		if e != api.OK || f != api.OK || !slices.Equal(got, want) {
			t.Fatalf("Make(%q, %v): %+v, %v; its runs %v, %v", s, runs, x, e, got, f)
		}
		if y, _ := style.Norm(x); !slices.Equal(y.Spans, x.Spans) {
			t.Fatalf("Make(%q, %v): %+v; normal: %+v", s, runs, x, y)
		}
	}
}

func (m maker) half() bool { return m.dice.IntN(2) == 0 }

// looks tells how the signs of a text look, by Signs.
func looks(x api.Text) []api.Attr {
	var l []api.Attr
	for _, a := range style.Signs(x) {
		l = append(l, a)
	}
	return l
}

// TestLooksStay: P712 and P713: signs look as they did behind Cut, Join, Splice, and what is told is right.
func TestLooksStay(t *testing.T) {
	m, told := newMaker(6), 0
	for range 5000 {
		x, y := m.text(10, 12), m.text(4, 5)
		was, n := looks(x), len(signsIn(x.S))
		from := m.dice.IntN(n + 1)
		to := from + m.dice.IntN(n+1-from)
		cut, e := style.Cut(x, from, to)
		if e != api.OK || style.Check(cut) != api.OK || !slices.Equal(looks(cut), was[from:to]) {
			t.Fatalf("Cut(%+v, %d, %d): %+v, %v", x, from, to, cut, e)
		}
		front, _ := style.Cut(x, 0, from)
		rest, _ := style.Cut(x, from, n)
		if whole, e := style.Join(front, rest); e != api.OK || !style.Same(whole, x) {
			t.Fatalf("%+v, cut at %d and joined: %+v, %v", x, from, whole, e)
		}
		if both, e := style.Join(x, y); e == api.OK && (style.Check(both) != api.OK || !slices.Equal(looks(both), append(slices.Clone(was), looks(y)...))) {
			t.Fatalf("Join(%+v, %+v): %+v", x, y, both)
		}
		z, e := style.Splice(x, from, to, y)
		if e != api.OK {
			continue
		}
		told++
		k := len(looks(y))
		l := looks(z)
		if style.Check(z) != api.OK || len(l) != n-to+from+k || !slices.Equal(l[:from], was[:from]) || !slices.Equal(l[from+k:], was[to:]) {
			t.Fatalf("Splice(%+v, %d, %d, %+v): %+v", x, from, to, y, z)
		}
	}
	if told < 2000 {
		t.Errorf("only %d splices: the texts try too little", told)
	}
}

// TestRight: P713: what Set and Norm tell is right.
func TestRight(t *testing.T) {
	m := newMaker(7)
	for range 5000 {
		x := m.text(10, 12)
		n := len(signsIn(x.S))
		if n == 0 {
			continue
		}
		y, e := style.Set(x, m.span(n))
		z, f := style.Norm(x)
		if e != api.OK || f != api.OK || style.Check(y) != api.OK || style.Check(z) != api.OK {
			t.Fatalf("%+v: %+v, %v; %+v, %v", x, y, e, z, f)
		}
	}
}

// TestHandedIn: P2: spans and runs that are handed in are not changed, nor what lies behind them, and not kept.
func TestHandedIn(t *testing.T) {
	room := []api.Span{i(2, 3), c(1, 1, 3), b(0, 4), u(9, 9), k(8, 8)}
	was := slices.Clone(room)
	x := text("abcd", room[:3]...)
	with := text("x", room[2:2]...)
	runs := []api.Run{{From: 0, To: 2}, run(2, 4, api.Attr{Colour: 2}), {From: 7, To: 7}}
	runsWere := slices.Clone(runs)
	var answers []api.Text
	keep := func(y api.Text, e api.Errno) {
		if e != api.OK {
			t.Fatal(e)
		}
		answers = append(answers, y)
	}
	keep(style.Norm(x))
	keep(style.Cut(x, 0, 4))
	keep(style.Join(x, with))
	keep(style.Join(with, x))
	keep(style.Splice(x, 2, 2, with))
	keep(style.Splice(with, 0, 0, x))
	keep(style.Set(x, k(1, 2)))
	keep(style.Make("abcd", runs[:2]))
	style.Check(x)
	style.Look(x, 2)
	style.Runs(x)
	style.Same(x, x)
	signs := style.Signs(x)
	if !slices.Equal(room, was) || !slices.Equal(runs, runsWere) {
		t.Errorf("%v was %v; %v was %v", room, was, runs, runsWere)
	}
	var copies []api.Text
	for _, y := range answers {
		copies = append(copies, text(y.S, slices.Clone(y.Spans)...))
	}
	clear(room)
	clear(runs)
	for n, y := range answers {
		hold(t, "kept", y, api.OK, copies[n], api.OK)
	}
	n := 0
	for g, a := range signs {
		if a != lookWords(text("abcd", was[:3]...), n) || g.At != n {
			t.Errorf("Signs: %v, %v", g, a)
		}
		n++
	}
	if n != 4 {
		t.Errorf("Signs: %d", n)
	}
}

// inside tells whether a text lies in the memory of another one.
func inside(part, s string) bool {
	at, from := uintptr(unsafe.Pointer(unsafe.StringData(part))), uintptr(unsafe.Pointer(unsafe.StringData(s)))
	return part != "" && at >= from && at < from+uintptr(len(s))
}

// TestAnswersAreNew: P2: texts and lists that are answered are new memory.
func TestAnswersAreNew(t *testing.T) {
	s := strings.Repeat("a line of text", 5)
	x, none := text(s, b(0, 9)), text("")
	n := len(s)
	for what, call := range map[string]func() (api.Text, api.Errno){
		"Plain":         func() (api.Text, api.Errno) { return style.Plain(s) },
		"Make":          func() (api.Text, api.Errno) { return style.Make(s, []api.Run{{From: 0, To: n}}) },
		"Norm":          func() (api.Text, api.Errno) { return style.Norm(x) },
		"Cut":           func() (api.Text, api.Errno) { return style.Cut(x, 0, n) },
		"Cut of a part": func() (api.Text, api.Errno) { return style.Cut(x, 3, 30) },
		"Join":          func() (api.Text, api.Errno) { return style.Join(x, none) },
		"Join behind":   func() (api.Text, api.Errno) { return style.Join(none, x) },
		"Splice":        func() (api.Text, api.Errno) { return style.Splice(x, 0, 0, none) },
		"Splice of all": func() (api.Text, api.Errno) { return style.Splice(none, 0, 0, x) },
		"Set":           func() (api.Text, api.Errno) { return style.Set(x, b(0, 9)) },
	} {
		y, e := call()
		if e != api.OK || inside(y.S, s) {
			t.Errorf("%s: %v, or it shares the text's memory", what, e)
		}
		want := slices.Clone(y.Spans)
		clear(y.Spans[:cap(y.Spans)])
		if z, _ := call(); !slices.Equal(z.Spans, want) || !slices.Equal(x.Spans, []api.Span{b(0, 9)}) {
			t.Errorf("%s: %v; want %v", what, z.Spans, want)
		}
	}
	l, _ := style.Runs(x)
	clear(l[:cap(l)])
	if l, _ := style.Runs(x); !slices.Equal(l, []api.Run{run(0, 9, api.Attr{Bold: true}), {From: 9, To: n}}) {
		t.Errorf("Runs: %v", l)
	}
}

// TestSignsAgain: P6: Signs may be left early, and ranged over again, also within itself.
func TestSignsAgain(t *testing.T) {
	x := text("aé\xc3d", b(1, 3), i(2, 3))
	signs := style.Signs(x)
	for range signs {
		break
	}
	outer := 0
	for _, a := range signs {
		inner := 0
		for g, c := range signs {
			if c != lookWords(x, inner) {
				t.Errorf("%v: %v", g, c)
			}
			if inner++; inner > outer+1 {
				break
			}
		}
		if a != lookWords(x, outer) {
			t.Errorf("sign %d: %v", outer, a)
		}
		outer++
	}
	if outer != 4 {
		t.Errorf("%d signs", outer)
	}
}

// TestNothingPanics: P1: any numbers, kinds and bytes at all.
func TestNothingPanics(t *testing.T) {
	dice := rand.New(rand.NewPCG(8, 8))
	m := newMaker(8)
	number := func() int {
		if dice.IntN(3) > 0 {
			return dice.IntN(6)
		}
		return int(dice.Uint64()) >> dice.IntN(64)
	}
	span := func() api.Span { return api.Span{From: number(), To: number(), Kind: number(), Value: number()} }
	for range 20000 {
		x, y := text(m.string(5)), text(m.string(5))
		for range dice.IntN(3) {
			x.Spans = append(x.Spans, span())
			y.Spans = append(y.Spans, span())
		}
		if style.Check(x) != checkWords(x) {
			t.Fatalf("Check(%+v): %v", x, style.Check(x))
		}
		style.Look(x, number())
		style.Runs(x)
		style.Make(x.S, []api.Run{run(0, number(), api.Attr{Colour: number()}), run(number(), number(), api.Attr{Colour: number()})})
		style.Norm(x)
		style.Same(x, y)
		style.Cut(x, number(), number())
		style.Join(x, y)
		style.Splice(x, number(), number(), y)
		style.Set(x, span())
		for range style.Signs(x) {
		}
	}
}
