package wrap_test

import (
	"math"
	"slices"
	"strings"
	"testing"

	"surtitle/api"
	"surtitle/style"
	"surtitle/wrap"
)

var (
	full = strings.Repeat("x", 4096)
	long = strings.Repeat("x", 4097)
)

// at makes breaks of signs and kinds, one behind the other.
func at(l ...int) []wrap.Break {
	var breaks []wrap.Break
	for n := 0; n < len(l); n += 2 {
		breaks = append(breaks, wrap.Break{Sign: l[n], Kind: l[n+1]})
	}
	return breaks
}

// dashed makes a text of words of so many cells, each with a dash at its end.
func dashed(l ...int) string {
	s := ""
	for _, cells := range l {
		s += strings.Repeat("x", cells-1) + "-"
	}
	return s
}

// TestPlaces: P1001, its rules one by one, and the example 1.
func TestPlaces(t *testing.T) {
	for _, c := range []struct {
		s    string
		want []wrap.Break
	}{
		{"", nil},
		{"a", nil},
		{" ", nil},
		{"ab c-d", at(1, 3, 3, 2, 4, 3, 5, 2)},
		// 1: behind a line end, also ahead of one, of a blank, at the end.
		{"\n", at(1, 1)},
		{"\n\n", at(1, 1, 2, 1)},
		{"a\nb", at(2, 1)},
		{"a\n b", at(2, 1, 3, 2)},
		{"a \n\t", at(3, 1)},
		{"a\r\n", at(1, 3, 3, 1)},
		{"\n\u0301", at(1, 1)},
		// 2 and 3: behind the last blank of a row.
		{"  a", at(2, 2)},
		{"a  ", nil},
		{"a \t\u3000b", at(4, 2)},
		{" \u0301b", at(2, 2)},
		{"a\u00a0b", at(1, 3, 2, 3)},
		{"a\u2007b", at(1, 3, 2, 3)},
		{"\u4e2d \u4e2d", at(2, 2)},
		// 4: behind a dash that has a word ahead.
		{"a-b", at(1, 3, 2, 2)},
		{"-b", at(1, 3)},
		{" -b", at(1, 2, 2, 3)},
		{"\n-b", at(1, 1, 2, 3)},
		{"a--b", at(1, 3, 2, 2, 3, 3)},
		{"a- b", at(1, 3, 3, 2)},
		{"a-\n", at(1, 3, 3, 1)},
		{"a-", at(1, 3)},
		{"a-\u0301b", at(1, 3, 3, 2)},
		{"(-b", at(1, 3, 2, 2)},
		{"a\u2011b", at(1, 3, 2, 3)},
		{"a-)", at(1, 3, 2, 2)},
		// 5: about what is wide, not behind an opening and not ahead of a closing one.
		{"\u4e2d\u6587", at(1, 2)},
		{"a\u6587b", at(1, 2, 2, 2)},
		{"\u4e2d\u3002\u6587", at(1, 3, 2, 2)},
		{"\u300c\u4e2d\u300d", at(1, 3, 2, 3)},
		{"(\u4e2d)", at(1, 3, 2, 3)},
		{")\u4e2d(", at(1, 2, 2, 2)},
		{"-\u4e2d", at(1, 2)},
		{"--\u4e2d", at(1, 3, 2, 2)},
		{"\u4e2d-\u3002", at(1, 2, 2, 2)},
		{"\U0001F1E6\U0001F1E6a", at(2, 2)},
		{"\U0001F1E6a", at(1, 3)},
		{"\u2764\ufe0fa", at(2, 2)},
		// 6: anywhere else, but within no cluster.
		{"abc", at(1, 3, 2, 3)},
		{"e\u0301x", at(2, 3)},
		{"\xe4\xb8x", at(1, 3, 2, 3)},
		{"a\x01b", at(1, 3, 2, 3)},
	} {
		if l := wrap.Places(c.s); !slices.Equal(l, c.want) {
			t.Errorf("Places(%q): %v; want %v", c.s, l, c.want)
		}
	}
}

// TestPlacesOfAll: P1001 over all short texts, and a text of more bytes than Wrap takes.
func TestPlacesOfAll(t *testing.T) {
	for s := range texts(pieces(), 4) {
		if l, want := wrap.Places(s), placesWords(s); !slices.Equal(l, want) {
			t.Fatalf("Places(%q): %v; want %v", s, l, want)
		}
	}
	if l := wrap.Places(strings.Repeat("a b", 10000)); len(l) != 2*10000-1 {
		t.Errorf("%d places", len(l))
	}
}

// TestClasses: P1001: the class of every rune, behind and ahead of letters, dashes and wide ones.
func TestClasses(t *testing.T) {
	for r := range rune(0x110000) {
		if r > 0x10000 && r%31 != 0 {
			continue
		}
		s := "a" + string(r) + "a\u4e2d" + string(r) + "\u4e2d-a"
		if l, want := wrap.Places(s), placesWords(s); !slices.Equal(l, want) {
			t.Fatalf("Places(%q): %v; want %v", s, l, want)
		}
	}
}

// TestWrap: P1002 and the examples 2 to 4 and 6.
func TestWrap(t *testing.T) {
	for _, c := range []struct {
		s     string
		width int
		want  []wrap.Break
		n     int64
	}{
		{"aaa bb cc", 6, at(4, 2), 10},
		{"aa bb cc", 5, at(3, 2), 9},
		{"abcdef", 4, at(3, 3), 2 + 1<<20},
		{"", 10, nil, 100},
		{"\n", 10, at(1, 1), 200},
		{"\n\n\n", 2, at(1, 1, 2, 1, 3, 1), 16},
		{"a  ", 2, nil, 1},
		{"\u4e2d\u6587", 2, at(1, 2), 0},
		{"\u4e2d\u3002\u6587", 2, at(1, 3, 2, 2), 1 << 20},
		{"ab", 2, nil, 0},
		{"abc", 2, at(1, 3), 1 + 1<<20},
		{"a  \n", 2, at(4, 1), 5},
		// Blanks count ahead of a word, and not behind one.
		{"   a", 4, nil, 0},
		{"   a", 3, at(3, 2), 13},
		{"a    b", 2, at(5, 2), 2},
		{"a \u3000\t", 2, nil, 1},
		{"\u3000a", 3, nil, 0},
		{"\u3000a", 2, at(1, 2), 5},
		// A cut is worse than much room.
		{"a bbbbbb c", 6, at(2, 2, 9, 2), 50},
		{"aa bbb", 200, nil, 194 * 194},
		// As bad with a place more, which begin with a lesser one: the fewest places.
		{dashed(8, 2, 6, 4, 3, 7, 2, 2, 7, 3, 4, 6, 2, 8), 10, at(10, 2, 20, 2, 30, 2, 34, 2, 44, 2, 54, 2), 36},
		// Less bad (46) with a place more than is needed (49).
		{dashed(9, 2, 6, 5, 3, 8, 2, 2, 8, 3, 5, 6, 2, 9), 11, at(9, 2, 17, 2, 25, 2, 35, 2, 45, 2, 53, 2, 61, 2), 46},
		{full[:200], 200, nil, 0},
		{full[:201], 200, at(100, 3), 100*100 + 99*99 + 1<<20},
		{full, 2, nil, -1},
	} {
		l, n, e := wrap.Wrap(c.s, c.width)
		if c.n < 0 {
			if e != api.OK || n != 2047<<20 || len(l) != 2047 {
				t.Errorf("%d places, %d, %v", len(l), n, e)
			}
			continue
		}
		if e != api.OK || n != c.n || !slices.Equal(l, c.want) {
			t.Errorf("Wrap(%q, %d): %v, %d, %v; want %v, %d", c.s, c.width, l, n, e, c.want, c.n)
		}
	}
}

// TestRefused: the errors of P1002 to P1005 in their order, and P4: nothing stands beside them.
func TestRefused(t *testing.T) {
	wrong := at(7, 7)
	for _, width := range []int{1, 0, -1, 201, math.MaxInt, math.MinInt} {
		for _, s := range []string{"", "a b", long} {
			l, n, e := wrap.Wrap(s, width)
			m, f := wrap.Badness(s, width, wrong)
			if len(l) != 0 || n != 0 || m != 0 || e != api.ErrArg || f != api.ErrArg {
				t.Errorf("width %d: %v, %d, %v; %d, %v; want arg", width, l, n, e, m, f)
			}
		}
		x, e := wrap.Text(api.Text{S: "a b"}, width)
		holdText(t, "Text", x, e, api.Text{}, api.ErrArg)
		x, e = wrap.Text(api.Text{S: long}, width)
		holdText(t, "Text", x, e, api.Text{}, api.ErrLong)
		x, e = wrap.Text(api.Text{S: "a", Spans: make([]api.Span, 257)}, width)
		holdText(t, "Text", x, e, api.Text{}, api.ErrMany)
		x, e = wrap.Text(api.Text{S: "a", Spans: make([]api.Span, 1)}, width)
		holdText(t, "Text", x, e, api.Text{}, api.ErrSpan)
	}
	for _, width := range []int{2, 3, 199, 200} {
		l, n, e := wrap.Wrap(long, width)
		m, f := wrap.Badness(long, width, wrong)
		if len(l) != 0 || n != 0 || m != 0 || e != api.ErrLong || f != api.ErrLong {
			t.Errorf("width %d: %v, %d, %v; %d, %v; want long", width, l, n, e, m, f)
		}
		if _, _, e := wrap.Wrap(full, width); e != api.OK {
			t.Errorf("width %d: %v", width, e)
		}
	}
	if l, e := wrap.Lines(long, wrong); len(l) != 0 || e != api.ErrLong {
		t.Errorf("%q, %v; want long", l, e)
	}
	if l, e := wrap.Lines(full, wrong); len(l) != 0 || e != api.ErrArg {
		t.Errorf("%q, %v; want arg", l, e)
	}
	if l, e := wrap.Lines(full, nil); !slices.Equal(l, []string{full}) || e != api.OK {
		t.Errorf("%d lines, %v", len(l), e)
	}
}

// holdWrap holds Wrap of a text against what the words tell of it.
func holdWrap(t *testing.T, s string, width int, want told) {
	t.Helper()
	l, n, e := wrap.Wrap(s, width)
	if e != api.OK || n != want.n || !slices.Equal(l, want.way) {
		t.Fatalf("Wrap(%q, %d): %v, %d, %v; want %v, %d", s, width, l, n, e, want.way, want.n)
	}
}

// TestWrapOfAll: P1002 and P1006 over all ways of all short texts, of some pieces, and of words.
func TestWrapOfAll(t *testing.T) {
	for s := range texts(pieces(), 3) {
		for width := 2; width <= 5; width++ {
			holdWrap(t, s, width, wrapWords(s, width))
		}
	}
	for s := range texts([]string{"a", " ", "-"}, 7) {
		for width := 2; width <= 4; width++ {
			holdWrap(t, s, width, wrapWords(s, width))
		}
	}
}

// TestWrapTies: P1002: of ways as bad as another, with as many places, the one with the lesser places.
func TestWrapTies(t *testing.T) {
	m, ties := newMaker(1), 0
	for range 2000 {
		s, width := m.string(8, "\u4e2d", "\u6587", "x ", "a"), 2+m.dice.IntN(6)
		l := fitting(s, width)
		slices.SortFunc(l, compare)
		holdWrap(t, s, width, l[0])
		if len(l) > 1 && l[1].n == l[0].n && len(l[1].way) == len(l[0].way) {
			ties++
		}
	}
	if ties < 300 {
		t.Errorf("only %d with other ways as good: the texts try too little", ties)
	}
}

// TestWrapFewest: P1002: of ways as bad as another those with the fewest places. Full lines and one of four cells in the midst (36) are as bad here as a line more, with room for 2, 2, 3 and 1 in each half (18).
func TestWrapFewest(t *testing.T) {
	halves := [][]int{{8, 2, 6, 4, 3, 7, 2}, {8, 2, 5, 5, 3, 7, 2}, {7, 3, 5, 5, 3, 7, 2}}
	for _, x := range halves {
		for _, y := range halves {
			y = slices.Clone(y)
			slices.Reverse(y)
			s := dashed(slices.Concat(x, y)...)
			holdWrap(t, s, 10, told{at(10, 2, 20, 2, 30, 2, 34, 2, 44, 2, 54, 2), 36})
			holdWrap(t, s, 10, wrapFronts(s, 10))
			more := at(x[0], 2, x[0]+x[1]+x[2], 2, 30-x[5], 2, 32, 2, 34+y[1], 2, 64-y[4]-y[5]-y[6], 2, 64-y[6], 2)
			if n, e := wrap.Badness(s, 10, more); n != 36 || e != api.OK {
				t.Errorf("%q, %v: %d, %v; want 36", s, more, n, e)
			}
		}
	}
}

// TestWrapOfMany: P1002 of longer texts, against all their ways, or the best of each front.
func TestWrapOfMany(t *testing.T) {
	m := newMaker(2)
	for range 3000 {
		s, width := m.string(9, pieces()...), 2+m.dice.IntN(8)
		want := wrapWords(s, width)
		holdWrap(t, s, width, want)
		if x := wrapFronts(s, width); compare(x, want) != 0 {
			t.Fatalf("%q, %d: the words tell %v and %v", s, width, x, want)
		}
	}
	for range 400 {
		s, width := m.string(70, append(pieces(), "word", "and ", "a", " ")...), 2+m.dice.IntN(20)
		holdWrap(t, s, width, wrapFronts(s, width))
	}
	for range 60 {
		s, width := m.words(20, 12), 5+m.dice.IntN(30)
		holdWrap(t, s, width, wrapFronts(s, width))
	}
}

// TestBadness: P1003 and the example 5.
func TestBadness(t *testing.T) {
	for _, c := range []struct {
		s     string
		width int
		l     []wrap.Break
		n     int64
		e     api.Errno
	}{
		{"ab", 2, at(1, 3), 2 + 1<<20, api.OK},
		{"ab", 2, at(1, 2), 0, api.ErrArg},
		{"ab", 2, nil, 0, api.OK},
		{"ab", 2, at(), 0, api.OK},
		{"abc", 2, nil, 0, api.ErrFull},
		{"abc", 2, at(1, 1), 0, api.ErrArg},
		{"abc", 2, at(3, 0), 0, api.ErrArg},
		{"abc", 2, at(0, 3), 0, api.ErrArg},
		{"abc", 2, at(0, 0, 1, 3), 0, api.ErrArg},
		{"abc", 2, at(1, 3, 1, 3), 0, api.ErrArg},
		{"abc", 2, at(2, 3, 1, 3), 0, api.ErrArg},
		{"abc", 2, at(1, 3, 2, 3), 3 + 2<<20, api.OK},
		{"abc", 2, at(1, 3, 2, 3, 3, 0), 0, api.ErrArg},
		{"abc", 2, at(1, 3, 2, 3, 3, 3), 0, api.ErrArg},
		{"a\nb", 2, nil, 0, api.ErrArg},
		{"a\nb", 2, at(2, 2), 0, api.ErrArg},
		{"a\nb", 2, at(2, 1), 2, api.OK},
		{"a\n", 2, nil, 0, api.ErrArg},
		{"a\n", 2, at(2, 0), 0, api.ErrArg},
		{"a\n", 2, at(2, 1), 5, api.OK},
		{"", 2, nil, 4, api.OK},
		{"", 2, at(0, 0), 0, api.ErrArg},
		{"", 2, at(0, 1), 0, api.ErrArg},
		{"a b", 2, at(1, 3), 0, api.ErrArg},
		{"a b", 2, at(2, 2), 2, api.OK},
		{"a b", 2, nil, 0, api.ErrFull},
		{"abc\nd", 2, nil, 0, api.ErrArg},
		{"a b", 200, nil, 197 * 197, api.OK},
		{"a", 2, at(math.MaxInt, math.MinInt), 0, api.ErrArg},
		{"a", 2, slices.Repeat(at(1, 3), 5000), 0, api.ErrArg},
		{full, 200, nil, 0, api.ErrFull},
		{strings.Repeat("\n", 4096), 200, wrap.Places(strings.Repeat("\n", 4096)), 4097 * 40000, api.OK},
		{full, 2, wrap.Places(full), 4096 + 4095<<20, api.OK},
	} {
		if n, e := wrap.Badness(c.s, c.width, c.l); n != c.n || e != c.e {
			t.Errorf("Badness(%.20q, %d, %v): %d, %v; want %d, %v", c.s, c.width, c.l, n, e, c.n, c.e)
		}
	}
}

// TestWays: P1003 and P1004 of all short lists of breaks: refused, where they are no way.
func TestWays(t *testing.T) {
	breaks := [][]wrap.Break{nil}
	for sign := -1; sign <= 4; sign++ {
		for kind := 0; kind <= 4; kind++ {
			breaks = append(breaks, at(sign, kind))
		}
	}
	for _, s := range []string{"", "a", "\n", "abc", "a b", "a-b", "a\nb", "\n\n\n", "a \n", "\n a", "ab\n", "\u4e2d\u3002a", "e\u0301x", "a \n "} {
		ways := waysWords(s)
		for _, x := range breaks {
			for _, y := range breaks {
				for _, z := range breaks {
					holdWay(t, s, slices.Concat(x, y, z), ways)
				}
			}
		}
	}
}

// holdWay holds Badness and Lines of breaks against what the words tell, all ways being known.
func holdWay(t *testing.T, s string, l []wrap.Break, ways [][]wrap.Break) {
	t.Helper()
	n, e := wrap.Badness(s, 2, l)
	lines, f := wrap.Lines(s, l)
	if !slices.ContainsFunc(ways, func(way []wrap.Break) bool { return slices.Equal(way, l) }) {
		if n != 0 || e != api.ErrArg || len(lines) != 0 || f != api.ErrArg {
			t.Fatalf("%q, %v: %d, %v, %q, %v; want arg", s, l, n, e, lines, f)
		}
		return
	}
	want, fits := badWords(s, 2, l)
	wantE := api.OK
	if !fits {
		wantE = api.ErrFull
	}
	if n != want || e != wantE || f != api.OK || !slices.Equal(lines, linesWords(s, l)) {
		t.Fatalf("%q, %v: %d, %v, %q, %v; want %d, %v, %q", s, l, n, e, lines, f, want, wantE, linesWords(s, l))
	}
}

// TestWaysOfAll: P1003 and P1004 of all ways of all short texts.
func TestWaysOfAll(t *testing.T) {
	for s := range texts(pieces(), 3) {
		ways := waysWords(s)
		for _, way := range ways {
			holdWay(t, s, way, ways)
		}
	}
}

// TestLines: P1004.
func TestLines(t *testing.T) {
	for _, c := range []struct {
		s    string
		l    []wrap.Break
		want []string
	}{
		{"", nil, []string{""}},
		{"   ", nil, []string{""}},
		{"\n", at(1, 1), []string{"", ""}},
		{" \n ", at(2, 1), []string{"", ""}},
		{"a  ", nil, []string{"a"}},
		{"  a", nil, []string{"  a"}},
		{"  a", at(2, 2), []string{"", "a"}},
		{"a \n\n b", at(3, 1, 4, 1), []string{"a", "", " b"}},
		{"a \n\n b", at(3, 1, 4, 1, 5, 2), []string{"a", "", "", "b"}},
		{"a\t\u3000\u2003b", at(4, 2), []string{"a", "b"}},
		{"a \u0301 b", at(4, 2), []string{"a", "b"}},
		{"\xe4 \xb8\xad", at(2, 2, 3, 3), []string{"\xe4", "\xb8", "\xad"}},
		{"a\u00a0 ", nil, []string{"a\u00a0"}},
		{"a\r\n", at(3, 1), []string{"a\r", ""}},
	} {
		if lines, e := wrap.Lines(c.s, c.l); e != api.OK || !slices.Equal(lines, c.want) {
			t.Errorf("Lines(%q, %v): %q, %v; want %q", c.s, c.l, lines, e, c.want)
		}
	}
}

// span makes one of a kind without a value.
func span(kind, from, to int) api.Span { return api.Span{From: from, To: to, Kind: kind} }

func holdText(t *testing.T, what string, got api.Text, e api.Errno, want api.Text, wantE api.Errno) {
	t.Helper()
	if e != wantE || got.S != want.S || !slices.Equal(got.Spans, want.Spans) {
		t.Errorf("%q: %q %v, %v; want %q %v, %v", what, got.S, got.Spans, e, want.S, want.Spans, wantE)
	}
}

// TestText: P1005 and the example 5.
func TestText(t *testing.T) {
	bold := func(s string, from, to int) api.Text {
		return api.Text{S: s, Spans: []api.Span{span(api.KBold, from, to)}}
	}
	for _, c := range []struct {
		t     api.Text
		width int
		want  api.Text
	}{
		{api.Text{}, 2, api.Text{}},
		{api.Text{S: "a  b"}, 2, api.Text{S: "a\nb"}},
		{bold("a  b", 0, 4), 2, bold("a\nb", 0, 3)},
		{bold("a  b", 0, 1), 2, bold("a\nb", 0, 1)},
		{bold("a  b", 0, 2), 2, bold("a\nb", 0, 1)},
		{bold("a  b", 2, 4), 2, bold("a\nb", 2, 3)},
		{bold("a  b", 1, 3), 2, bold("a\nb", 1, 2)},
		{bold("a  b", 1, 2), 2, api.Text{S: "a\nb"}},
		{bold("abc", 0, 3), 2, bold("a\nbc", 0, 4)},
		{bold("abc", 1, 3), 2, bold("a\nbc", 2, 4)},
		{bold("abc", 0, 1), 2, bold("a\nbc", 0, 1)},
		{bold("a  ", 1, 3), 2, api.Text{S: "a"}},
		{bold("a  ", 0, 2), 2, bold("a", 0, 1)},
		{bold("a  \n b", 0, 6), 2, bold("a\n b", 0, 4)},
		{bold("a \n", 2, 3), 2, bold("a\n", 1, 2)},
		{bold("   ", 0, 3), 2, api.Text{}},
		{api.Text{S: "   a"}, 2, api.Text{S: "\na"}},
		{api.Text{S: " \n \n "}, 2, api.Text{S: "\n\n"}},
		{api.Text{S: "a\u3000\u0301b"}, 2, api.Text{S: "a\nb"}},
		{api.Text{S: "\xe4 \xb8\xad"}, 2, api.Text{S: "\xe4\n\xb8\xad"}},
		{bold("aa bb", 0, 5), 5, bold("aa bb", 0, 5)},
	} {
		x, e := wrap.Text(c.t, c.width)
		holdText(t, c.t.S, x, e, c.want, api.OK)
	}
	// Spans stay as they stand where nothing is done, and come outer ones first where something is.
	spans := []api.Span{span(api.KItalic, 1, 2), span(api.KBold, 0, 3)}
	x, e := wrap.Text(api.Text{S: "a b", Spans: spans}, 3)
	holdText(t, "as it is", x, e, api.Text{S: "a b", Spans: spans}, api.OK)
	x, e = wrap.Text(api.Text{S: "a b ", Spans: spans}, 3)
	holdText(t, "with a blank less", x, e, api.Text{S: "a b", Spans: []api.Span{spans[1], spans[0]}}, api.OK)
}

// TestTextLong: P1005: from the text's end on, the first splice that makes it too long.
func TestTextLong(t *testing.T) {
	lines := func(n int) string { return strings.Repeat("xx\n", n) }
	for n, c := range []struct {
		s    string
		want string
		e    api.Errno
	}{
		{full, "", api.ErrLong},
		// 4096 bytes, and a cut.
		{lines(1364) + "xx\nx", lines(1364) + "xx\nx", api.OK},
		{lines(1364) + "xxxx", "", api.ErrLong},
		// 4095, and one or two.
		{lines(1363) + "xxxxxx", "", api.ErrLong},
		{lines(1363) + "xx\nxxx", lines(1363) + "xx\nx\nxx", api.OK},
		// A blank ahead is taken out too late, one at the end, or in a line behind, in time.
		{"x \n" + lines(1363) + "xxxx", "", api.ErrLong},
		{lines(1363) + "xxx\n \nx", lines(1363) + "x\nxx\n\nx", api.OK},
		{lines(1364) + "xxx ", lines(1364) + "x\nxx", api.OK},
		{"xxx" + lines(1364) + " ", "x\nxx" + lines(1364)[2:], api.ErrLong},
		{"xxx\n" + lines(1363) + "x  ", "x\nxx\n" + lines(1363) + "x", api.OK},
		// As long as before with a line end for each blank.
		{strings.Repeat("x ", 2048), strings.Repeat("x\n", 2047) + "x", api.OK},
	} {
		if c.e != api.OK {
			c.want = ""
		}
		x, e := wrap.Text(api.Text{S: c.s}, 2)
		if e != c.e || x.S != c.want || len(x.Spans) > 0 {
			t.Errorf("text %d of %d bytes: %d bytes, %v; want %d, %v", n, len(c.s), len(x.S), e, len(c.want), c.e)
		}
	}
}

// TestTextOfMany: P1005 of texts with spans against its words.
func TestTextOfMany(t *testing.T) {
	m := newMaker(3)
	for range 5000 {
		x, width := m.over(m.string(14, append(pieces(), " ", "a")...), 8), 2+m.dice.IntN(6)
		if e := style.Check(x); e != api.OK {
			t.Fatal(e)
		}
		y, e := wrap.Text(x, width)
		want, wantE := textWords(x, width)
		if e != wantE || y.S != want.S || !slices.Equal(y.Spans, want.Spans) {
			t.Fatalf("Text(%+v, %d): %+v, %v; want %+v, %v", x, width, y, e, want, wantE)
		}
	}
}
