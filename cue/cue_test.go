package cue_test

import (
	"errors"
	"math"
	"slices"
	"strings"
	"testing"

	"surtitle/api"
	"surtitle/cue"
)

func r(n, d int64) api.Ratio { return api.Ratio{N: n, D: d} }

func whole(n int64) api.Ratio { return r(n, 1) }

func b(from, to int) api.Span { return api.Span{From: from, To: to, Kind: api.KBold} }

func i(from, to int) api.Span { return api.Span{From: from, To: to, Kind: api.KItalic} }

func k(from, to int) api.Span { return api.Span{From: from, To: to, Kind: api.KStrike} }

func c(value, from, to int) api.Span {
	return api.Span{From: from, To: to, Kind: api.KColour, Value: value}
}

func text(s string, l ...api.Span) api.Text { return api.Text{S: s, Spans: l} }

// at is a cue of these times.
func at(from, to api.Ratio, s string, l ...api.Span) api.Cue {
	return api.Cue{Start: from, End: to, Text: text(s, l...)}
}

// secs is a cue from a whole second to another one.
func secs(from, to int64, s string) api.Cue { return at(whole(from), whole(to), s) }

// but is a cue with something else about it.
func but(x api.Cue, turn func(x *api.Cue)) api.Cue {
	turn(&x)
	return x
}

// full is a cue of which nothing is zero.
func full() api.Cue {
	return api.Cue{Start: r(1, 3), End: r(7, 2), Lane: 7, Side: api.High, Name: "Ann, é", Text: text("ab\nc", b(0, 4), c(5, 1, 3))}
}

func doc(l ...api.Cue) api.Doc { return api.Doc{Cues: l} }

// many is a document of as many cues.
func many(n int, x api.Cue) api.Doc { return api.Doc{Cues: slices.Repeat([]api.Cue{x}, n)} }

// dense is a right text whose normal form would have too many spans.
func dense() api.Text {
	x := text(strings.Repeat("x", 300), i(0, 300))
	for n := range 140 {
		x.Spans = append(x.Spans, b(2*n+1, 2*n+2))
	}
	return x
}

func sameText(x, y api.Text) bool { return x.S == y.S && slices.Equal(x.Spans, y.Spans) }

// sameCue tells whether two are the same, their spans one by one.
func sameCue(x, y api.Cue) bool {
	return x.Start == y.Start && x.End == y.End && x.Lane == y.Lane && x.Side == y.Side && x.Name == y.Name && sameText(x.Text, y.Text)
}

func sameDoc(x, y api.Doc) bool { return slices.EqualFunc(x.Cues, y.Cues, sameCue) }

// fault is what an error should be; OK: none.
type fault struct {
	cue int
	e   api.Errno
}

// is tells whether an error is that one.
func (f fault) is(err error) bool {
	if f.e == api.OK {
		return err == nil
	}
	w, ok := err.(*cue.Wrong)
	return ok && w != nil && *w == cue.Wrong{Cue: f.cue, Err: f.e}
}

// holdDoc complains if a document, or the error in its place, is not what it should be.
func holdDoc(t *testing.T, what string, got api.Doc, err error, want api.Doc, f fault) {
	t.Helper()
	if !f.is(err) || !sameDoc(got, want) {
		t.Errorf("%s: %+v, %v; want %+v, %+v", what, got, err, want, f)
	}
}

// TestWrong: what an error of a cue says, and what it wraps.
func TestWrong(t *testing.T) {
	for _, x := range []struct {
		w    cue.Wrong
		want string
	}{
		{cue.Wrong{Cue: 0, Err: api.ErrMany}, "cue 0: many"},
		{cue.Wrong{Cue: 1, Err: api.ErrOrder}, "cue 1: order"},
		{cue.Wrong{Cue: 4095, Err: api.ErrSpan}, "cue 4095: span"},
		{cue.Wrong{Cue: -12, Err: api.ErrBack}, "cue -12: back"},
		{cue.Wrong{}, "cue 0: ok"},
		{cue.Wrong{Cue: math.MaxInt, Err: 99}, "cue 9223372036854775807: error"},
	} {
		var err error = &x.w
		if err.Error() != x.want {
			t.Errorf("%q; want %q", err, x.want)
		}
		if e, ok := x.w.Unwrap().(api.Errno); !ok || e != x.w.Err || !errors.Is(err, x.w.Err) || errors.Is(err, api.ErrNone) {
			t.Errorf("%q wraps %v", err, e)
		}
		var e api.Errno
		if !errors.As(err, &e) || e != x.w.Err {
			t.Errorf("%q is as %v", err, e)
		}
	}
}

// TestCheck: P901's Check: each error, on both sides of its bounds, and the first one where there are several.
func TestCheck(t *testing.T) {
	type turn = func(x *api.Cue)
	for n, x := range []struct {
		turn turn
		want api.Errno
	}{
		{func(x *api.Cue) {}, api.OK},
		{func(x *api.Cue) { *x = api.Cue{} }, api.ErrWide},
		{func(x *api.Cue) { *x = api.Cue{Start: r(0, 1), End: r(1, 1<<20)} }, api.OK},
		{func(x *api.Cue) { x.Start, x.End = r(360000<<20-1, 1<<20), whole(360000) }, api.OK},
		{func(x *api.Cue) { x.Start = r(2, 4) }, api.ErrWide},
		{func(x *api.Cue) { x.Start = r(1, 1<<20+1) }, api.ErrWide},
		{func(x *api.Cue) { x.Start = r(-1, 3) }, api.ErrTime},
		{func(x *api.Cue) { x.Start = whole(360001) }, api.ErrTime},
		{func(x *api.Cue) { x.Start, x.End = whole(-1), r(2, 2) }, api.ErrTime},
		{func(x *api.Cue) { x.Start, x.End = r(2, 2), whole(-1) }, api.ErrWide},
		{func(x *api.Cue) { x.End = r(9, 0) }, api.ErrWide},
		{func(x *api.Cue) { x.End = r(1<<20+2, 1<<20+1) }, api.ErrWide},
		{func(x *api.Cue) { x.End = r(360000<<20+1, 1<<20) }, api.ErrTime},
		{func(x *api.Cue) { x.End, x.Lane = whole(-9), 9 }, api.ErrTime},
		{func(x *api.Cue) { x.End = x.Start }, api.ErrBack},
		{func(x *api.Cue) { x.End = r(1<<19, 3<<19+1) }, api.ErrWide},
		{func(x *api.Cue) { x.End = r(333333, 1000000) }, api.ErrBack},
		{func(x *api.Cue) { x.End = r(333334, 1000000) }, api.ErrWide},
		{func(x *api.Cue) { x.End = r(166667, 500000) }, api.OK},
		{func(x *api.Cue) { x.End, x.Lane = x.Start, -1 }, api.ErrBack},
		{func(x *api.Cue) { x.Lane = 0 }, api.OK},
		{func(x *api.Cue) { x.Lane = -1 }, api.ErrLane},
		{func(x *api.Cue) { x.Lane = 8 }, api.ErrLane},
		{func(x *api.Cue) { x.Lane = math.MinInt }, api.ErrLane},
		{func(x *api.Cue) { x.Side = api.Low }, api.OK},
		{func(x *api.Cue) { x.Side = 2 }, api.ErrLane},
		{func(x *api.Cue) { x.Side = -1 }, api.ErrLane},
		{func(x *api.Cue) { x.Side, x.Name = 2, "\n" }, api.ErrLane},
		{func(x *api.Cue) { x.Name = "" }, api.OK},
		{func(x *api.Cue) { x.Name = strings.Repeat("n", 64) }, api.OK},
		{func(x *api.Cue) { x.Name = strings.Repeat("n", 65) }, api.ErrName},
		{func(x *api.Cue) { x.Name = strings.Repeat("é", 32) + "n" }, api.ErrName},
		{func(x *api.Cue) { x.Name = "a\x1fb" }, api.ErrName},
		{func(x *api.Cue) { x.Name = "\x00" }, api.ErrName},
		{func(x *api.Cue) { x.Name = "\x20\x7f\xff\u0085, <>&{}" }, api.OK},
		{func(x *api.Cue) { x.Name, x.Text = "\t", text("a", b(0, 2)) }, api.ErrName},
		{func(x *api.Cue) { x.Text = text("") }, api.OK},
		{func(x *api.Cue) { x.Text = text(strings.Repeat("\n", 4096)) }, api.OK},
		{func(x *api.Cue) { x.Text = text(strings.Repeat("\n", 4097)) }, api.ErrLong},
		{func(x *api.Cue) { x.Text.Spans = slices.Repeat([]api.Span{b(0, 1)}, 256) }, api.OK},
		{func(x *api.Cue) { x.Text.Spans = slices.Repeat([]api.Span{b(0, 9)}, 257) }, api.ErrMany},
		{func(x *api.Cue) { x.Text.Spans = []api.Span{b(0, 5)} }, api.ErrSpan},
		{func(x *api.Cue) { x.Text.Spans = []api.Span{b(0, 2), i(1, 3)} }, api.ErrSpan},
	} {
		y := but(full(), x.turn)
		if e := cue.Check(y); e != x.want {
			t.Errorf("%d: Check(%+v): %v; want %v", n, y, e, x.want)
		}
		if err := cue.CheckDoc(doc(secs(0, 1, ""), y)); x.want != api.OK && !(fault{1, x.want}).is(err) {
			t.Errorf("%d: CheckDoc(%+v): %v; want %v", n, y, err, x.want)
		}
	}
}

// TestCheckDoc: P901's CheckDoc, and the example 1: too many ahead of all, any cue's error ahead of the order.
func TestCheckDoc(t *testing.T) {
	bad := but(secs(0, 1, ""), func(x *api.Cue) { x.Lane = 8 })
	for n, x := range []struct {
		d    api.Doc
		want fault
	}{
		{api.Doc{}, fault{}},
		{doc(full()), fault{}},
		{doc(secs(0, 1, ""), secs(0, 1, ""), secs(0, 2, ""), secs(1, 2, "")), fault{}},
		{doc(secs(0, 9, ""), secs(1, 2, "")), fault{}},
		{doc(secs(2, 3, ""), secs(1, 5, "")), fault{1, api.ErrOrder}},
		{doc(secs(0, 3, ""), secs(0, 2, "")), fault{1, api.ErrOrder}},
		{doc(secs(0, 1, ""), secs(2, 3, ""), secs(1, 5, ""), secs(0, 7, "")), fault{2, api.ErrOrder}},
		{doc(secs(0, 1, ""), secs(0, 3, ""), secs(0, 2, "")), fault{2, api.ErrOrder}},
		{doc(at(r(1, 3), whole(1), ""), at(r(333333, 1000000), whole(1), "")), fault{1, api.ErrOrder}},
		{doc(at(r(333333, 1000000), whole(1), ""), at(r(1, 3), whole(1), "")), fault{}},
		{doc(bad), fault{0, api.ErrLane}},
		{doc(secs(2, 3, ""), secs(1, 5, ""), secs(1, 5, ""), bad, secs(1, 1, "")), fault{3, api.ErrLane}},
		{doc(secs(2, 3, ""), secs(3, 3, ""), bad), fault{1, api.ErrBack}},
		{many(4096, full()), fault{}},
		{many(4097, full()), fault{0, api.ErrMany}},
		{many(4097, bad), fault{0, api.ErrMany}},
		{many(4096, bad), fault{0, api.ErrLane}},
	} {
		if err := cue.CheckDoc(x.d); !x.want.is(err) {
			t.Errorf("%d: %v; want %+v", n, err, x.want)
		}
	}
	if err := cue.CheckDoc(doc(secs(2, 3, ""), secs(1, 5, ""))); err.Error() != "cue 1: order" {
		t.Error(err)
	}
	late := many(4096, secs(5, 6, ""))
	late.Cues[4095] = secs(4, 9, "")
	if err := cue.CheckDoc(late); !(fault{4095, api.ErrOrder}).is(err) {
		t.Error(err)
	}
}

// TestCompare: P902's Compare: by Start, then by End, and by nothing else.
func TestCompare(t *testing.T) {
	for _, x := range []struct {
		a, b api.Cue
		want int
	}{
		{secs(1, 2, ""), secs(1, 2, ""), 0},
		{secs(1, 2, "a"), secs(1, 2, "b"), 0},
		{full(), at(r(1, 3), r(7, 2), ""), 0},
		{secs(1, 9, ""), secs(2, 3, ""), -1},
		{secs(1, 2, ""), secs(1, 3, ""), -1},
		{at(r(333333, 1000000), whole(9), ""), at(r(1, 3), whole(1), ""), -1},
		{at(whole(0), r(1<<20-1, 1<<20), ""), at(whole(0), whole(1), ""), -1},
		{at(r(2, 7), whole(1), ""), at(r(1, 3), whole(1), ""), -1},
	} {
		if got := cue.Compare(x.a, x.b); got != x.want {
			t.Errorf("Compare(%+v, %+v): %d; want %d", x.a, x.b, got, x.want)
		}
		if got := cue.Compare(x.b, x.a); got != -x.want {
			t.Errorf("Compare(%+v, %+v): %d; want %d", x.b, x.a, got, -x.want)
		}
	}
}

// TestSort: P902's Sort: the cues by Compare, those alike as they stood.
func TestSort(t *testing.T) {
	for _, l := range [][]api.Cue{nil, {}} {
		if got := cue.Sort(l); len(got) != 0 {
			t.Errorf("%v", got)
		}
	}
	l := []api.Cue{secs(2, 3, "c"), secs(1, 3, "b"), secs(1, 2, "a"), secs(2, 3, "d"), secs(1, 3, "b2"), secs(0, 9, "0")}
	want := []api.Cue{secs(0, 9, "0"), secs(1, 2, "a"), secs(1, 3, "b"), secs(1, 3, "b2"), secs(2, 3, "c"), secs(2, 3, "d")}
	if got := cue.Sort(l); !sameDoc(doc(got...), doc(want...)) {
		t.Errorf("%+v", got)
	}
	// Enough of them that no small sort serves; what is alike is told apart by its lane and its text.
	l, want = nil, nil
	for n := range 5000 {
		x := but(secs(int64(n*7919%13), 20+int64(n*104729%3), strings.Repeat("x", n%50)), func(x *api.Cue) { x.Lane = n })
		l = append(l, x)
	}
	for start := range int64(13) {
		for end := int64(20); end < 23; end++ {
			for _, x := range l {
				if x.Start == whole(start) && x.End == whole(end) {
					want = append(want, x)
				}
			}
		}
	}
	if got := cue.Sort(l); len(want) != len(l) || !sameDoc(doc(got...), doc(want...)) {
		t.Error("5000 cues are not in order, or not as they stood")
	}
}

// TestSame: P903: each thing about a cue counts, of its text the looks; documents that are not right are alike to none.
func TestSame(t *testing.T) {
	d := doc(secs(0, 1, "x"), full())
	alike := but(full(), func(x *api.Cue) { x.Text.Spans = []api.Span{c(4, 1, 3), b(1, 2), b(0, 4), c(5, 1, 3), b(0, 4)} })
	for _, y := range []api.Doc{d, doc(secs(0, 1, "x"), alike), cue.Twin(d)} {
		if !cue.Same(d, y) || !cue.Same(y, d) {
			t.Errorf("%+v is not alike to %+v", d, y)
		}
	}
	if !cue.Same(api.Doc{}, api.Doc{Cues: []api.Cue{}}) {
		t.Error("no cues and an empty list are the same")
	}
	for n, turn := range []func(x *api.Cue){
		func(x *api.Cue) { x.Start = r(1, 4) },
		func(x *api.Cue) { x.End = r(9, 2) },
		func(x *api.Cue) { x.Lane = 6 },
		func(x *api.Cue) { x.Side = api.Low },
		func(x *api.Cue) { x.Name = "Ann, e" },
		func(x *api.Cue) { x.Name = "" },
		func(x *api.Cue) { x.Text.S = "ab\nd" },
		func(x *api.Cue) { x.Text.Spans = nil },
		func(x *api.Cue) { x.Text.Spans = []api.Span{b(0, 4), c(6, 1, 3)} },
		func(x *api.Cue) { x.Text.Spans = []api.Span{b(0, 4), c(5, 1, 3), c(4, 1, 3)} },
	} {
		other := doc(secs(0, 1, "x"), but(full(), turn))
		if cue.CheckDoc(other) != nil || cue.Same(d, other) || cue.Same(other, d) {
			t.Errorf("%d: %+v is alike to %+v", n, d, other)
		}
	}
	for n, y := range []api.Doc{{}, doc(secs(0, 1, "x")), doc(full()), doc(secs(0, 1, "x"), full(), full())} {
		if cue.Same(d, y) || cue.Same(y, d) {
			t.Errorf("%d: documents of as many cues are not alike", n)
		}
	}
	for n, y := range []api.Doc{many(4097, full()), doc(secs(1, 1, "")), doc(full(), secs(0, 1, "")), doc(but(full(), func(x *api.Cue) { x.Text.Spans = []api.Span{b(0, 9)} }))} {
		if cue.Same(y, y) || cue.Same(y, cue.Twin(y)) || cue.Same(d, y) {
			t.Errorf("%d: a document that is not right is alike to none", n)
		}
	}
}

// TestTwin: P902's Twin: the same document, right or not.
func TestTwin(t *testing.T) {
	wrong := doc(full(), secs(0, 1, ""), api.Cue{Start: r(4, -4), Lane: -9, Side: 9, Name: strings.Repeat("\n", 99), Text: text("a", b(5, 2))})
	for _, d := range []api.Doc{{}, {Cues: []api.Cue{}}, doc(full()), wrong, many(4097, full())} {
		if got := cue.Twin(d); !sameDoc(got, d) {
			t.Errorf("%+v", got)
		}
	}
}
