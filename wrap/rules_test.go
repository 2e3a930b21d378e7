package wrap_test

import (
	"slices"
	"strings"
	"testing"
	"unsafe"

	"surtitle/api"
	"surtitle/cell"
	"surtitle/style"
	"surtitle/wrap"
)

// anyWay makes a way of breaking a text, by chance: more places, or fewer.
func (m maker) anyWay(s string) []wrap.Break {
	few := 1 + m.dice.IntN(8)
	return slices.DeleteFunc(wrap.Places(s), func(p wrap.Break) bool {
		return p.Kind != 1 && m.dice.IntN(few) > 0
	})
}

// TestNoneIsBetter: P1006: no way that fits has less badness than Wrap's, and Badness tells the same of that.
func TestNoneIsBetter(t *testing.T) {
	m, fit := newMaker(5), 0
	for range 3000 {
		s, width := m.string(100, append(pieces(), "some ", "words ", "\u4e2d\u6587")...), 2+m.dice.IntN(199)
		l, n, e := wrap.Wrap(s, width)
		if k, f := wrap.Badness(s, width, l); e != api.OK || f != api.OK || k != n {
			t.Fatalf("Wrap(%q, %d): %v, %d, %v; its badness %d, %v", s, width, l, n, e, k, f)
		}
		for range 5 {
			other := m.anyWay(s)
			k, e := wrap.Badness(s, width, other)
			if e != api.OK && e != api.ErrFull || e == api.OK && k < n {
				t.Fatalf("Wrap(%q, %d): %v, %d; but %v: %d, %v", s, width, l, n, other, k, e)
			}
			if e == api.OK {
				fit++
			}
		}
	}
	if fit < 3000 {
		t.Errorf("only %d ways fit: they try too little", fit)
	}
}

// isLeftOut tells whether a part of a text is blanks with up to one line end behind.
func isLeftOut(part string) bool {
	for _, c := range clustersIn(strings.TrimSuffix(part, "\n")) {
		if !isBlank(c) {
			return false
		}
	}
	return true
}

// holdParts: P1007: the lines of a way, with what was left out between, are the text.
func holdParts(t *testing.T, s string, way []wrap.Break) []string {
	t.Helper()
	lines, e := wrap.Lines(s, way)
	if e != api.OK || len(lines) != len(way)+1 {
		t.Fatalf("Lines(%q, %v): %q, %v", s, way, lines, e)
	}
	signs, from := signsIn(s), 0
	for n, line := range lines {
		to := len(signs)
		if n < len(way) {
			to = way[n].Sign
		}
		whole := strings.Join(signs[from:to], "")
		if !strings.HasPrefix(whole, line) || !isLeftOut(whole[len(line):]) {
			t.Fatalf("Lines(%q, %v): %q: line %d", s, way, lines, n)
		}
		from = to
	}
	return lines
}

// TestLinesAreParts: P1007.
func TestLinesAreParts(t *testing.T) {
	m := newMaker(6)
	for range 5000 {
		s, width := m.string(60, pieces()...), 2+m.dice.IntN(20)
		holdParts(t, s, m.anyWay(s))
		l, _, _ := wrap.Wrap(s, width)
		for _, line := range holdParts(t, s, l) {
			if cell.Of(line) > width {
				t.Fatalf("Wrap(%q, %d): %v: the line %q", s, width, l, line)
			}
		}
	}
}

// looks tells how each sign of a text is to look, but for blanks and line ends.
func looks(t api.Text) []api.Attr {
	var l []api.Attr
	var all []api.Attr
	for _, a := range style.Signs(t) {
		all = append(all, a)
	}
	for _, c := range clustersIn(t.S) {
		if !isBlank(c) && !isLineEnd(c) {
			l = append(l, all[c.from:c.to]...)
		}
	}
	return l
}

// TestTextOfText: P1008.
func TestTextOfText(t *testing.T) {
	m := newMaker(7)
	for range 5000 {
		x, width := m.over(m.string(40, append(pieces(), "word ", "\n")...), 12), 2+m.dice.IntN(12)
		y, e := wrap.Text(x, width)
		way, _, _ := wrap.Wrap(x.S, width)
		lines, _ := wrap.Lines(x.S, way)
		if e != api.OK || style.Check(y) != api.OK || y.S != strings.Join(lines, "\n") || !slices.Equal(looks(y), looks(x)) {
			t.Fatalf("Text(%+v, %d): %+v, %v", x, width, y, e)
		}
		again, e := wrap.Text(y, width)
		if e != api.OK || !style.Same(again, y) {
			t.Fatalf("Text(%+v, %d): %+v; then %+v, %v", x, width, y, again, e)
		}
		way, _, _ = wrap.Wrap(y.S, width)
		if slices.ContainsFunc(way, func(p wrap.Break) bool { return p.Kind != 1 }) {
			t.Fatalf("Text(%+v, %d): %+v; its places %v", x, width, y, way)
		}
	}
}

// TestBlanksWithinLook: P1008: blanks within a line stay, and look as they did.
func TestBlanksWithinLook(t *testing.T) {
	x := api.Text{S: "a b  c", Spans: []api.Span{span(api.KUnder, 1, 2), span(api.KBold, 3, 4)}}
	y, e := wrap.Text(x, 3)
	holdText(t, "Text", y, e, api.Text{S: "a b\nc", Spans: []api.Span{span(api.KUnder, 1, 2)}}, api.OK)
}

// TestNothingPanics: P1: any bytes, numbers and breaks at all; P4: beside an error stands nothing.
func TestNothingPanics(t *testing.T) {
	m := newMaker(8)
	for range 20000 {
		b := make([]byte, m.dice.IntN(40))
		for n := range b {
			b[n] = byte(m.dice.Uint32())
		}
		s, width := string(b), m.dice.IntN(210)-4
		var l []wrap.Break
		for range m.dice.IntN(4) {
			l = append(l, wrap.Break{Sign: int(m.dice.Uint64()) >> m.dice.IntN(64), Kind: m.dice.IntN(6) - 1})
		}
		places := wrap.Places(s)
		if !slices.Equal(places, placesWords(s)) {
			t.Fatalf("Places(%q): %v", s, places)
		}
		way, n, e := wrap.Wrap(s, width)
		x, f := wrap.Text(m.over(s, 3), width)
		if (e == api.OK) != (width >= 2 && width <= 200) || e != f || e != api.OK && (len(way) > 0 || n != 0 || x.S != "" || len(x.Spans) > 0) {
			t.Fatalf("Wrap(%q, %d): %v, %d, %v; %+v, %v", s, width, way, n, e, x, f)
		}
		k, e := wrap.Badness(s, width, l)
		lines, f := wrap.Lines(s, l)
		if e != api.OK && k != 0 || f != api.OK && len(lines) > 0 {
			t.Fatalf("%q, %d, %v: %d, %v; %q, %v", s, width, l, k, e, lines, f)
		}
	}
}

// TestMostOfAll: P1 of texts of as many bytes as may be, of one kind of sign each, at both ends of the widths.
func TestMostOfAll(t *testing.T) {
	for _, x := range append(pieces(), "a ", "a-", "\u4e2d\u3002", "\x01 ") {
		s := strings.Repeat(x, 4096/len(x))
		for _, width := range []int{2, 200} {
			l, n, e := wrap.Wrap(s, width)
			k, f := wrap.Badness(s, width, l)
			if e != api.OK || f != api.OK || n != k {
				t.Errorf("%q: %d, %v; %d, %v", x, n, e, k, f)
			}
			y, e := wrap.Text(api.Text{S: s}, width)
			lines, _ := wrap.Lines(s, l)
			want := strings.Join(lines, "\n")
			if len(want) > 4096 && e != api.ErrLong || len(want) <= 4096 && (e != api.OK || y.S != want) {
				t.Errorf("%q: %d bytes, %v; want %d", x, len(y.S), e, len(want))
			}
		}
	}
}

// inside tells whether a text lies in the memory of another one.
func inside(part, s string) bool {
	at, from := uintptr(unsafe.Pointer(unsafe.StringData(part))), uintptr(unsafe.Pointer(unsafe.StringData(s)))
	return part != "" && at >= from && at < from+uintptr(len(s))
}

// TestAnswersAreNew: P2: what is answered shares no memory with what was handed in, nor with another answer.
func TestAnswersAreNew(t *testing.T) {
	s := strings.Repeat("a line of text ", 5)
	l, _, _ := wrap.Wrap(s, 40)
	lines, _ := wrap.Lines(s, l)
	one, _ := wrap.Lines(s[:20], nil)
	for _, line := range append(lines, one...) {
		if inside(line, s) {
			t.Errorf("%q shares the text's memory", line)
		}
	}
	x := api.Text{S: s, Spans: []api.Span{span(api.KBold, 0, 9), span(api.KItalic, 0, 9)}}
	for _, width := range []int{20, 200} {
		for _, x := range []api.Text{x, {S: s[:10], Spans: x.Spans}, {S: strings.TrimSpace(s), Spans: x.Spans}} {
			y, e := wrap.Text(x, width)
			if e != api.OK || inside(y.S, s) || &y.Spans[0] == &x.Spans[0] {
				t.Errorf("Text(%+v, %d): %+v, %v", x, width, y, e)
			}
		}
	}
	places, again := wrap.Places(s), wrap.Places(s)
	clear(places)
	if !slices.Equal(again, placesWords(s)) {
		t.Errorf("%v", again)
	}
}

// TestHandedIn: P2: nothing that is handed in is changed, its spare room neither.
func TestHandedIn(t *testing.T) {
	spans := []api.Span{span(api.KItalic, 1, 3), span(api.KBold, 0, 6), span(9, 9, 9)}
	breaks := at(3, 2, 5, 2, 9, 9)
	wasSpans, wasBreaks := slices.Clone(spans), slices.Clone(breaks)
	for _, width := range []int{2, 200} {
		y, e := wrap.Text(api.Text{S: "a  b c", Spans: spans[:2]}, width)
		y.Spans = append(y.Spans, span(8, 8, 8))
		clear(y.Spans)
		n, f := wrap.Badness("a  b c", width, breaks[:2])
		lines, g := wrap.Lines("a  b c", breaks[:2])
		if e != api.OK || f != api.OK || g != api.OK || n != int64(3*(width-1)*(width-1)) || len(lines) != 3 {
			t.Errorf("%v; %d, %v; %q, %v", e, n, f, lines, g)
		}
	}
	if !slices.Equal(spans, wasSpans) || !slices.Equal(breaks, wasBreaks) {
		t.Errorf("%v, %v", spans, breaks)
	}
}

// TestAgain: P3: the same calls answer the same.
func TestAgain(t *testing.T) {
	m := newMaker(9)
	for range 500 {
		s, width := m.string(60, pieces()...), 2+m.dice.IntN(9)
		l, n, _ := wrap.Wrap(s, width)
		k, o, _ := wrap.Wrap(strings.Clone(s), width)
		if n != o || !slices.Equal(l, k) {
			t.Fatalf("Wrap(%q, %d): %v, %d; then %v, %d", s, width, l, n, k, o)
		}
	}
}
