package style_test

import (
	"math"
	"slices"
	"strings"
	"testing"

	"surtitle/api"
	"surtitle/style"
)

func b(from, to int) api.Span { return api.Span{From: from, To: to, Kind: api.KBold} }

func i(from, to int) api.Span { return api.Span{From: from, To: to, Kind: api.KItalic} }

func u(from, to int) api.Span { return api.Span{From: from, To: to, Kind: api.KUnder} }

func k(from, to int) api.Span { return api.Span{From: from, To: to, Kind: api.KStrike} }

func c(value, from, to int) api.Span {
	return api.Span{From: from, To: to, Kind: api.KColour, Value: value}
}

func text(s string, l ...api.Span) api.Text { return api.Text{S: s, Spans: l} }

// comb is n spans of a sign each, with a sign ahead of each.
func comb(n int) []api.Span {
	var l []api.Span
	for at := range n {
		l = append(l, b(2*at+1, 2*at+2))
	}
	return l
}

// heap is n spans, all of one sign.
func heap(n int) []api.Span { return slices.Repeat([]api.Span{b(0, 1)}, n) }

var long = strings.Repeat("x", api.MaxText+1)

// full is a text of as many bytes as may be.
var full = long[1:]

// hold complains if an answer is not what it should be; beside an error that is nothing.
func hold(t *testing.T, what string, got api.Text, e api.Errno, want api.Text, wantE api.Errno) {
	t.Helper()
	if e != wantE || got.S != want.S || !slices.Equal(got.Spans, want.Spans) {
		t.Errorf("%s: %q %v, %v; want %q %v, %v", what, got.S, got.Spans, e, want.S, want.Spans, wantE)
	}
}

// TestCheck: P701, W6 and the example 3.
func TestCheck(t *testing.T) {
	for n, c := range []struct {
		t    api.Text
		want api.Errno
	}{
		{text(""), api.OK},
		{text("abc"), api.OK},
		{text("abc", b(0, 3), i(0, 3), u(0, 3), k(0, 3), c(0, 0, 3), c(0xFFFFFF, 0, 3)), api.OK},
		{text("abc", b(0, 1), b(1, 2), b(2, 3)), api.OK},
		{text("abc", i(1, 2), b(0, 3)), api.OK},
		{text("abc", b(0, 2), i(0, 1), u(1, 2), k(2, 3)), api.OK},
		{text("\xc3a\xa9", b(0, 3)), api.OK},
		{text("\xc3\xa9", b(0, 1)), api.OK},
		{text("\xc3\xa9", b(0, 2)), api.ErrSpan},
		{text("abc", b(0, 2), i(1, 3)), api.ErrSpan},
		{text("abc", i(1, 3), b(0, 2)), api.ErrSpan},
		{text("abc", b(0, 2), b(1, 3)), api.ErrSpan},
		{text("abcdef", b(0, 6), i(0, 2), u(2, 4), k(3, 5)), api.ErrSpan},
		{text("abcdef", b(0, 4), i(1, 3), u(3, 5)), api.ErrSpan},
		{text("abcdef", b(0, 4), i(1, 3), u(3, 4), k(2, 3), k(4, 6)), api.OK},
		{text("abc", b(0, 0)), api.ErrSpan},
		{text("abc", b(2, 1)), api.ErrSpan},
		{text("abc", b(0, 4)), api.ErrSpan},
		{text("abc", b(3, 3)), api.ErrSpan},
		{text("abc", b(3, 4)), api.ErrSpan},
		{text("abc", b(-1, 1)), api.ErrSpan},
		{text("", b(0, 1)), api.ErrSpan},
		{text("", b(0, 0)), api.ErrSpan},
		{text("abc", api.Span{To: 1, Kind: 0}), api.ErrSpan},
		{text("abc", api.Span{To: 1, Kind: -1}), api.ErrSpan},
		{text("abc", api.Span{To: 1, Kind: 6}), api.ErrSpan},
		{text("abc", api.Span{To: 1, Kind: api.KBold, Value: 1}), api.ErrSpan},
		{text("abc", api.Span{To: 1, Kind: api.KStrike, Value: 1}), api.ErrSpan},
		{text("abc", api.Span{To: 1, Kind: api.KUnder, Value: -1}), api.ErrSpan},
		{text("abc", c(-1, 0, 1)), api.ErrSpan},
		{text("abc", c(0x1000000, 0, 1)), api.ErrSpan},
		{text("abc", b(math.MinInt, math.MaxInt)), api.ErrSpan},
		{text("abc", b(0, 1), b(math.MaxInt, math.MinInt)), api.ErrSpan},
		{text(full, b(0, len(full))), api.OK},
		{text(long), api.ErrLong},
		{text("abc", heap(256)...), api.OK},
		{text("abc", heap(257)...), api.ErrMany},
		{text(long, slices.Repeat([]api.Span{b(9, 8)}, 257)...), api.ErrLong},
		{text("abc", slices.Repeat([]api.Span{b(9, 8)}, 257)...), api.ErrMany},
	} {
		if e := style.Check(c.t); e != c.want {
			t.Errorf("text %d: %v; want %v", n, e, c.want)
		}
	}
}

// TestPlain: P701.
func TestPlain(t *testing.T) {
	for _, s := range []string{"", "a", "\xc3a\n", full} {
		x, e := style.Plain(s)
		hold(t, "Plain", x, e, text(s), api.OK)
	}
	x, e := style.Plain(long)
	hold(t, "Plain of too much", x, e, text(""), api.ErrLong)
}

// TestCheckedFirst: P701, P4: each call answers first Check's error of its texts, in their order, and nothing beside it.
func TestCheckedFirst(t *testing.T) {
	good := text("abc")
	for _, c := range []struct {
		t api.Text
		e api.Errno
	}{{text(long), api.ErrLong}, {text("abc", heap(257)...), api.ErrMany}, {text("abc", b(0, 2), i(1, 3)), api.ErrSpan}} {
		if a, e := style.Look(c.t, -1); a != (api.Attr{}) || e != c.e {
			t.Errorf("Look: %v, %v; want %v", a, e, c.e)
		}
		if l, e := style.Runs(c.t); len(l) != 0 || e != c.e {
			t.Errorf("Runs: %v, %v; want %v", l, e, c.e)
		}
		x, e := style.Norm(c.t)
		hold(t, "Norm", x, e, api.Text{}, c.e)
		x, e = style.Cut(c.t, -1, 9)
		hold(t, "Cut", x, e, api.Text{}, c.e)
		x, e = style.Set(c.t, b(2, 1))
		hold(t, "Set", x, e, api.Text{}, c.e)
		x, e = style.Join(c.t, text("abc", b(2, 1)))
		hold(t, "Join", x, e, api.Text{}, c.e)
		x, e = style.Join(good, c.t)
		hold(t, "Join", x, e, api.Text{}, c.e)
		x, e = style.Splice(c.t, 2, 1, text("abc", b(2, 1)))
		hold(t, "Splice", x, e, api.Text{}, c.e)
		x, e = style.Splice(good, 2, 1, c.t)
		hold(t, "Splice", x, e, api.Text{}, c.e)
		if style.Same(c.t, c.t) || style.Same(good, c.t) || style.Same(c.t, good) {
			t.Errorf("Same of one that is not right (%v)", c.e)
		}
		for range style.Signs(c.t) {
			t.Errorf("Signs of one that is not right (%v)", c.e)
		}
	}
}

// TestLook: P702 and the examples 1 and 2.
func TestLook(t *testing.T) {
	x := text("abcd", b(0, 4), i(1, 3))
	for n, c := range []struct {
		t    api.Text
		sign int
		want api.Attr
		e    api.Errno
	}{
		{x, 0, api.Attr{Bold: true}, api.OK},
		{x, 1, api.Attr{Bold: true, Italic: true}, api.OK},
		{x, 2, api.Attr{Bold: true, Italic: true}, api.OK},
		{x, 3, api.Attr{Bold: true}, api.OK},
		{x, 4, api.Attr{}, api.ErrArg},
		{x, -1, api.Attr{}, api.ErrArg},
		{x, math.MaxInt, api.Attr{}, api.ErrArg},
		{x, math.MinInt, api.Attr{}, api.ErrArg},
		{text(""), 0, api.Attr{}, api.ErrArg},
		{text("a"), 0, api.Attr{}, api.OK},
		{text("é", u(0, 1)), 0, api.Attr{Under: true}, api.OK},
		{text("é", u(0, 1)), 1, api.Attr{}, api.ErrArg},
		{text("abc", u(1, 2), k(1, 2)), 1, api.Attr{Under: true, Strike: true}, api.OK},
		{text("abc", u(1, 2), k(1, 2)), 0, api.Attr{}, api.OK},
		{text("abc", u(1, 2), k(1, 2)), 2, api.Attr{}, api.OK},
		{text("abcd", c(1, 0, 2), c(2, 0, 2)), 0, api.Attr{Colour: 3}, api.OK},
		{text("abcd", c(2, 0, 2), c(1, 0, 2)), 0, api.Attr{Colour: 2}, api.OK},
		{text("abcd", c(1, 0, 1), c(2, 0, 2)), 0, api.Attr{Colour: 2}, api.OK},
		{text("abcd", c(1, 1, 2), c(2, 0, 2)), 1, api.Attr{Colour: 2}, api.OK},
		{text("abcd", c(1, 1, 2), c(2, 0, 2)), 0, api.Attr{Colour: 3}, api.OK},
		{text("abcd", c(5, 1, 2), c(6, 1, 2), c(7, 0, 3), c(8, 0, 4)), 1, api.Attr{Colour: 7}, api.OK},
		{text("abcd", c(0, 0, 2)), 0, api.Attr{Colour: 1}, api.OK},
		{text("abcd", c(0xFFFFFF, 0, 2)), 0, api.Attr{Colour: 0x1000000}, api.OK},
		{text("abcd", c(9, 0, 2)), 2, api.Attr{}, api.OK},
	} {
		if a, e := style.Look(c.t, c.sign); a != c.want || e != c.e {
			t.Errorf("text %d, sign %d: %v, %v; want %v, %v", n, c.sign, a, e, c.want, c.e)
		}
	}
}

func run(from, to int, a api.Attr) api.Run { return api.Run{From: from, To: to, Attr: a} }

// TestRuns: P703 and the example 1.
func TestRuns(t *testing.T) {
	bold, both := api.Attr{Bold: true}, api.Attr{Bold: true, Italic: true}
	for n, c := range []struct {
		t    api.Text
		want []api.Run
	}{
		{text(""), nil},
		{text("a"), []api.Run{{From: 0, To: 1}}},
		{text("abcd", b(0, 4), i(1, 3)), []api.Run{run(0, 1, bold), run(1, 3, both), run(3, 4, bold)}},
		{text("abcd", b(1, 3)), []api.Run{{From: 0, To: 1}, run(1, 3, bold), {From: 3, To: 4}}},
		{text("abcd", b(0, 1), b(1, 2), b(0, 2), b(1, 2)), []api.Run{run(0, 2, bold), {From: 2, To: 4}}},
		{text("\xc3é\xa9😀", b(1, 2), b(2, 3)), []api.Run{{From: 0, To: 1}, run(1, 3, bold), {From: 3, To: 4}}},
		{text("abc", c(1, 0, 3), c(2, 1, 2)), []api.Run{run(0, 1, api.Attr{Colour: 2}), run(1, 2, api.Attr{Colour: 3}), run(2, 3, api.Attr{Colour: 2})}},
		{text("abc", c(1, 0, 3), c(1, 1, 2)), []api.Run{run(0, 3, api.Attr{Colour: 2})}},
	} {
		if l, e := style.Runs(c.t); e != api.OK || !slices.Equal(l, c.want) {
			t.Errorf("text %d: %v, %v; want %v", n, l, e, c.want)
		}
	}
}

// TestNorm: P704 and the example 2.
func TestNorm(t *testing.T) {
	for _, c := range []struct{ t, want api.Text }{
		{text(""), text("")},
		{text("abcd"), text("abcd")},
		{text("abcd", i(0, 4), b(1, 3)), text("abcd", i(0, 1), b(1, 3), i(1, 3), i(3, 4))},
		{text("abcd", c(1, 0, 4), c(2, 1, 2)), text("abcd", c(1, 0, 1), c(2, 1, 2), c(1, 2, 4))},
		{text("abcd", b(0, 4), i(1, 3)), text("abcd", b(0, 4), i(1, 3))},
		{text("abcd", i(0, 2), b(0, 2)), text("abcd", b(0, 2), i(0, 2))},
		{text("abcd", b(2, 4), b(0, 2), b(1, 2)), text("abcd", b(0, 4))},
		{text("abcd", k(0, 4), u(1, 4), i(2, 4), b(3, 4)), text("abcd", k(0, 1), u(1, 2), k(1, 2), i(2, 3), u(2, 3), k(2, 3), b(3, 4), i(3, 4), u(3, 4), k(3, 4))},
		{text("abcd", k(3, 4), u(2, 4), i(1, 4), b(0, 4)), text("abcd", b(0, 4), i(1, 4), u(2, 4), k(3, 4))},
		{text("abcd", c(7, 0, 4), b(0, 2), b(2, 3)), text("abcd", b(0, 3), c(7, 0, 3), c(7, 3, 4))},
		{text("abcd", b(1, 2), i(1, 2), b(2, 3)), text("abcd", b(1, 3), i(1, 2))},
		{text("abcd", b(1, 3), i(1, 2), i(3, 4), u(0, 4)), text("abcd", u(0, 1), b(1, 3), i(1, 2), u(1, 2), u(2, 3), i(3, 4), u(3, 4))},
		{text("abcd", c(0, 0, 2), c(0, 2, 4), c(1, 2, 3)), text("abcd", c(0, 0, 2), c(1, 2, 3), c(0, 3, 4))},
	} {
		x, e := style.Norm(c.t)
		hold(t, "Norm", x, e, c.want, api.OK)
	}
}

// TestNormMany: P704: a text with few spans may have too many in normal form.
func TestNormMany(t *testing.T) {
	// n bold signs within, with one ahead of each, cut the italic ones into 2n stretches; one more ends behind all.
	for _, n := range []int{84, 85, 86} {
		x, e := style.Norm(text(full[:2*n], append(comb(n), i(0, 2*n))...))
		if n <= 85 && (e != api.OK || len(x.Spans) != 3*n) || n > 85 && (e != api.ErrMany || x.S != "" || len(x.Spans) != 0) {
			t.Errorf("%d: %v, %d spans", n, e, len(x.Spans))
		}
	}
	x, e := style.Norm(text(full[:511], append(comb(255), c(1, 510, 511))...))
	if e != api.OK || len(x.Spans) != 256 {
		t.Errorf("256: %v, %d spans", e, len(x.Spans))
	}
}

// TestMake: P704.
func TestMake(t *testing.T) {
	bold := api.Attr{Bold: true}
	for n, c := range []struct {
		s    string
		l    []api.Run
		want api.Text
		e    api.Errno
	}{
		{"", nil, text(""), api.OK},
		{"", []api.Run{}, text(""), api.OK},
		{"", []api.Run{{From: 0, To: 0}}, text(""), api.ErrArg},
		{"", []api.Run{{From: 0, To: 1}}, text(""), api.ErrArg},
		{"ab", nil, text(""), api.ErrArg},
		{"ab", []api.Run{{From: 0, To: 1}}, text(""), api.ErrArg},
		{"ab", []api.Run{{From: 0, To: 3}}, text(""), api.ErrArg},
		{"ab", []api.Run{{From: 1, To: 2}}, text(""), api.ErrArg},
		{"ab", []api.Run{{From: -1, To: 2}}, text(""), api.ErrArg},
		{"ab", []api.Run{{From: 0, To: 1}, {From: 0, To: 2}}, text(""), api.ErrArg},
		{"abc", []api.Run{{From: 0, To: 1}, {From: 2, To: 3}}, text(""), api.ErrArg},
		{"ab", []api.Run{{From: 0, To: 1}, {From: 1, To: 1}, {From: 1, To: 2}}, text(""), api.ErrArg},
		{"ab", []api.Run{{From: 0, To: 2}, {From: 2, To: 0}, {From: 0, To: 2}}, text(""), api.ErrArg},
		{"ab", []api.Run{{From: 0, To: 2}, {From: 2, To: 2}}, text(""), api.ErrArg},
		{"ab", []api.Run{run(0, 2, api.Attr{Colour: -1})}, text(""), api.ErrArg},
		{"ab", []api.Run{run(0, 2, api.Attr{Colour: 0x1000001})}, text(""), api.ErrArg},
		{"ab", []api.Run{run(0, 2, api.Attr{Colour: 0x1000000})}, text("ab", c(0xFFFFFF, 0, 2)), api.OK},
		{"ab", []api.Run{run(0, 2, api.Attr{Colour: 1})}, text("ab", c(0, 0, 2)), api.OK},
		{"é", []api.Run{{From: 0, To: 2}}, text(""), api.ErrArg},
		{"é", []api.Run{run(0, 1, bold)}, text("é", b(0, 1)), api.OK},
		{"abc", []api.Run{run(0, 1, bold), run(1, 3, bold)}, text("abc", b(0, 3)), api.OK},
		{"abc", []api.Run{run(0, 1, bold), {From: 1, To: 2}, run(2, 3, bold)}, text("abc", b(0, 1), b(2, 3)), api.OK},
		{"ab", []api.Run{run(0, 2, api.Attr{Bold: true, Italic: true, Under: true, Strike: true, Colour: 5})}, text("ab", b(0, 2), i(0, 2), u(0, 2), k(0, 2), c(4, 0, 2)), api.OK},
		{full, []api.Run{run(0, len(full), bold)}, text(full, b(0, len(full))), api.OK},
		{long, []api.Run{{From: 7, To: 3}}, text(""), api.ErrLong},
		{"ab", []api.Run{{From: math.MinInt, To: math.MaxInt}}, text(""), api.ErrArg},
	} {
		x, e := style.Make(c.s, c.l)
		if e != c.e || x.S != c.want.S || !slices.Equal(x.Spans, c.want.Spans) {
			t.Errorf("call %d: %q %v, %v; want %q %v, %v", n, x.S, x.Spans, e, c.want.S, c.want.Spans, c.e)
		}
	}
}

// TestMakeMany: P704: 256 spans are not too many; a fault at the end of the list is told ahead of one too many.
func TestMakeMany(t *testing.T) {
	for _, n := range []int{255, 256, 257} {
		var l []api.Run
		for at := range n {
			l = append(l, api.Run{From: at, To: at + 1, Attr: api.Attr{Colour: 1 + at%2}})
		}
		x, e := style.Make(full[:n], l)
		if n <= 256 && (e != api.OK || len(x.Spans) != n) || n > 256 && (e != api.ErrMany || x.S != "" || len(x.Spans) != 0) {
			t.Errorf("%d: %v, %d spans", n, e, len(x.Spans))
		}
		if _, e := style.Make(full[:n+1], l); e != api.ErrArg {
			t.Errorf("%d: %v; want arg", n, e)
		}
	}
}

// TestSame: P705.
func TestSame(t *testing.T) {
	for n, c := range []struct {
		a, b api.Text
		want bool
	}{
		{text(""), text(""), true},
		{text("ab"), text("ab"), true},
		{text("ab"), text("ac"), false},
		{text("ab"), text("abc"), false},
		{text("\xc3a"), text("\ufffda"), false},
		{text("ab", b(0, 1), b(1, 2)), text("ab", b(0, 2)), true},
		{text("ab", b(0, 1)), text("ab", b(0, 2)), false},
		{text("ab", b(0, 2)), text("ab", i(0, 2)), false},
		{text("ab", b(0, 2), i(0, 2)), text("ab", i(0, 2), b(0, 2)), true},
		{text("ab", c(1, 0, 2), c(2, 0, 2)), text("ab", c(2, 0, 2)), true},
		{text("ab", c(1, 0, 2), c(2, 0, 2)), text("ab", c(2, 0, 2), c(1, 0, 2)), false},
		{text("ab", c(0, 0, 2)), text("ab"), false},
		{text("ab", b(0, 3)), text("ab", b(0, 3)), false},
		{text(long), text(long), false},
		{text(full), text(full), true},
	} {
		if style.Same(c.a, c.b) != c.want || style.Same(c.b, c.a) != c.want {
			t.Errorf("texts %d: %v", n, !c.want)
		}
	}
}

// TestSigns: P710.
func TestSigns(t *testing.T) {
	type pair struct {
		g api.Sign
		a api.Attr
	}
	for n, c := range []struct {
		t    api.Text
		want []pair
	}{
		{text(""), nil},
		{text("a"), []pair{{api.Sign{At: 0, Len: 1, Rune: 'a'}, api.Attr{}}}},
		{text("aé\xc3😀", b(1, 3), c(5, 2, 3)), []pair{
			{api.Sign{At: 0, Len: 1, Rune: 'a'}, api.Attr{}},
			{api.Sign{At: 1, Len: 2, Rune: 'é'}, api.Attr{Bold: true}},
			{api.Sign{At: 3, Len: 1, Rune: api.Bad, Bad: true}, api.Attr{Bold: true, Colour: 6}},
			{api.Sign{At: 4, Len: 4, Rune: '😀'}, api.Attr{}},
		}},
		{text("ab", b(0, 3)), nil},
	} {
		var l []pair
		for g, a := range style.Signs(c.t) {
			l = append(l, pair{g, a})
		}
		if !slices.Equal(l, c.want) {
			t.Errorf("text %d: %v; want %v", n, l, c.want)
		}
	}
}
