package speed_test

import (
	"math"
	"slices"
	"strings"
	"testing"

	"surtitle/api"
	"surtitle/cue"
	"surtitle/speed"
)

func r(n, d int64) api.Ratio { return api.Ratio{N: n, D: d} }

func whole(n int64) api.Ratio { return r(n, 1) }

// at is a cue of these times.
func at(from, to api.Ratio, s string) api.Cue {
	return api.Cue{Start: from, End: to, Text: api.Text{S: s}}
}

// in is a cue in another lane and on another side.
func in(lane, side int, x api.Cue) api.Cue {
	x.Lane, x.Side = lane, side
	return x
}

func doc(l ...api.Cue) api.Doc { return api.Doc{Cues: l} }

// by are rules.
func by(signs, least, gap api.Ratio) speed.Rules {
	return speed.Rules{Signs: signs, Least: least, Gap: gap}
}

// usual are the example's rules.
func usual() speed.Rules { return by(whole(10), whole(1), r(1, 10)) }

func sameCue(x, y api.Cue) bool {
	return x.Start == y.Start && x.End == y.End && x.Lane == y.Lane && x.Side == y.Side && x.Name == y.Name &&
		x.Text.S == y.Text.S && slices.Equal(x.Text.Spans, y.Text.Spans)
}

func sameDoc(x, y api.Doc) bool { return slices.EqualFunc(x.Cues, y.Cues, sameCue) }

// fault is what an error should be; OK: none.
type fault struct {
	cue int
	e   api.Errno
}

// is tells whether an error is that one.
func (f fault) is(err error) bool {
	if f.e == api.OK {
		return err == nil
	}
	w, ok := err.(*cue.Wrong)
	return ok && w != nil && *w == cue.Wrong{Cue: f.cue, Err: f.e}
}

// TestCount: P1101 and the example 1: signs of no width and the three blanks are not read, all others are.
func TestCount(t *testing.T) {
	for _, x := range []struct {
		s    string
		want int
	}{
		{"", 0},
		{"a b\u0301\u4e2d\xff", 4},
		{"abc", 3},
		{" \u0020\u00a0\u3000", 0},
		{"\u2003\u2000\u1680\u202f", 4},
		{"\t\n\r\x00\x1f\x7f\u0085", 0},
		{"\u0301\u200b\u200d\u00ad\ufe0f", 0},
		{"e\u0301\u0301", 1},
		{"\u4e2d\u3001\uff0c", 3},
		{"\U0001f469\u200d\U0001f4bb", 2},
		{"\U0001f1e6\U0001f1e7", 2},
		{"\xff\xfe\xe4\xb8", 4},
		{"\ufffd", 1},
		{"\u4e2d\xe4\xb8", 3},
		{strings.Repeat("a", 4096), 4096},
	} {
		spans := []api.Span{{From: 0, To: 1, Kind: api.KBold}}
		if n := speed.Count(api.Text{S: x.s, Spans: spans}); n != x.want {
			t.Errorf("Count(%q): %d; want %d", x.s, n, x.want)
		}
	}
}

// TestWants: P1102 and the examples 1 and 3.
func TestWants(t *testing.T) {
	long := strings.Repeat("a", 4096)
	for _, x := range []struct {
		s     string
		rules speed.Rules
		want  api.Ratio
		e     api.Errno
	}{
		{"a b\u0301\u4e2d\xff", by(whole(10), r(1, 5), whole(0)), r(2, 5), api.OK},
		{"a b\u0301\u4e2d\xff", by(whole(10), whole(1), whole(0)), whole(1), api.OK},
		{"a b\u0301\u4e2d\xff", by(whole(10), r(2, 5), whole(0)), r(2, 5), api.OK},
		{"", by(whole(10), whole(0), whole(0)), whole(0), api.OK},
		{"", by(r(1, 1<<31), r(1, 3), whole(0)), r(1, 3), api.OK},
		{"", by(r(1<<62, 1), r(1, 3), whole(0)), r(1, 3), api.OK},
		{"abc", by(r(15, 2), whole(0), whole(0)), r(2, 5), api.OK},
		{"abc", by(whole(1), whole(360000), whole(360000)), whole(360000), api.OK},
		{"abc", by(whole(1), r(1, 1<<20), r(1, 1<<20)), whole(3), api.OK},
		// A D of up to MaxGrid.
		{"a", by(whole(1000003), whole(0), whole(0)), r(1, 1000003), api.OK},
		{"a", by(whole(1<<20), whole(0), whole(0)), r(1, 1<<20), api.OK},
		{"a", by(whole(1<<20+1), whole(0), whole(0)), api.Ratio{}, api.ErrWide},
		{"a", by(whole(2000003), whole(0), whole(0)), api.Ratio{}, api.ErrWide},
		{"aa", by(whole(1<<21), whole(0), whole(0)), r(1, 1<<20), api.OK},
		{"a", by(whole(1<<40), whole(0), whole(0)), api.Ratio{}, api.ErrWide},
		// Also where the least time is longer.
		{"a", by(whole(2000003), whole(5), whole(0)), api.Ratio{}, api.ErrWide},
		// A time of up to MaxTime.
		{"a", by(r(1, 360000), whole(0), whole(0)), whole(360000), api.OK},
		{"a", by(r(1, 360001), whole(0), whole(0)), api.Ratio{}, api.ErrTime},
		{"aaa", by(r(2, 240001), whole(0), whole(0)), api.Ratio{}, api.ErrTime},
		{long, by(r(1, 1<<31), whole(360000), whole(0)), api.Ratio{}, api.ErrTime},
		{"a", by(r(1<<20+1, 1<<31), whole(0), whole(0)), api.Ratio{}, api.ErrWide},
		{"a", by(r(1<<20-1, 1<<31), whole(0), whole(0)), r(1<<31, 1<<20-1), api.OK},
		// Rules that are not right.
		{"abcd", by(whole(0), whole(1), whole(0)), api.Ratio{}, api.ErrArg},
		{"abcd", by(whole(-1), whole(1), whole(0)), api.Ratio{}, api.ErrArg},
		{"abcd", by(r(2, 4), whole(1), whole(0)), api.Ratio{}, api.ErrArg},
		{"abcd", by(r(1, 1<<31+1), whole(1), whole(0)), api.Ratio{}, api.ErrArg},
		{"abcd", by(r(1, -1), whole(1), whole(0)), api.Ratio{}, api.ErrArg},
		{"abcd", by(r(1<<62+1, 1), whole(1), whole(0)), api.Ratio{}, api.ErrArg},
		{"abcd", by(whole(1), whole(-1), whole(0)), api.Ratio{}, api.ErrArg},
		{"abcd", by(whole(1), r(1, 1<<20+1), whole(0)), api.Ratio{}, api.ErrArg},
		{"abcd", by(whole(1), whole(360001), whole(0)), api.Ratio{}, api.ErrArg},
		{"abcd", by(whole(1), r(3, 3), whole(0)), api.Ratio{}, api.ErrArg},
		{"abcd", by(whole(1), whole(1), r(-1, 3)), api.Ratio{}, api.ErrArg},
		{"abcd", by(whole(1), whole(1), r(360000<<20+1, 1<<20)), api.Ratio{}, api.ErrArg},
		{"abcd", by(whole(1), whole(1), r(0, 2)), api.Ratio{}, api.ErrArg},
		{"abcd", speed.Rules{}, api.Ratio{}, api.ErrArg},
		// The rules ahead of what does not fit, the text ahead of both.
		{"a", by(whole(2000003), whole(-1), whole(0)), api.Ratio{}, api.ErrArg},
		{long + "a", by(whole(2000003), whole(-1), whole(0)), api.Ratio{}, api.ErrLong},
	} {
		if got, e := speed.Wants(api.Text{S: x.s}, x.rules); got != x.want || e != x.e {
			t.Errorf("Wants(%.20q, %v): %v, %v; want %v, %v", x.s, x.rules, got, e, x.want, x.e)
		}
	}
}

// TestWantsText: P1102: a text's own errors come first.
func TestWantsText(t *testing.T) {
	for _, x := range []struct {
		spans []api.Span
		want  api.Errno
	}{
		{[]api.Span{{From: 0, To: 2, Kind: api.KBold}}, api.OK},
		{slices.Repeat([]api.Span{{From: 0, To: 2, Kind: api.KBold}}, 257), api.ErrMany},
		{[]api.Span{{From: 0, To: 3, Kind: api.KBold}}, api.ErrSpan},
		{[]api.Span{{From: 0, To: 2, Kind: 6}}, api.ErrSpan},
	} {
		for _, rules := range []speed.Rules{usual(), {}} {
			want := x.want
			if want == api.OK && rules == (speed.Rules{}) {
				want = api.ErrArg
			}
			if _, e := speed.Wants(api.Text{S: "ab", Spans: x.spans}, rules); e != want {
				t.Errorf("%v, %v: %v; want %v", x.spans, rules, e, want)
			}
		}
	}
}

// wrongs are documents and rules of which something is wrong, for Look and for Fit.
func wrongs() []struct {
	d     api.Doc
	rules speed.Rules
	want  fault
} {
	a := at(whole(0), whole(1), "a")
	long := strings.Repeat("a", 4097)
	return []struct {
		d     api.Doc
		rules speed.Rules
		want  fault
	}{
		{doc(a), speed.Rules{}, fault{0, api.ErrArg}},
		{api.Doc{}, speed.Rules{}, fault{0, api.ErrArg}},
		{doc(a, a), by(whole(10), whole(1), whole(-1)), fault{0, api.ErrArg}},
		{doc(a, a), by(whole(0), whole(1), whole(1)), fault{0, api.ErrArg}},
		{doc(a, at(whole(1), whole(1), "")), speed.Rules{}, fault{1, api.ErrBack}},
		{doc(a, a, in(8, 0, a)), usual(), fault{2, api.ErrLane}},
		{doc(at(whole(1), whole(2), ""), a), speed.Rules{}, fault{1, api.ErrOrder}},
		{api.Doc{Cues: slices.Repeat([]api.Cue{a}, 4097)}, speed.Rules{}, fault{0, api.ErrMany}},
		{doc(at(whole(0), whole(1), long)), speed.Rules{}, fault{0, api.ErrLong}},
		// What texts want.
		{doc(at(whole(0), whole(1), ""), at(whole(0), whole(1), "a")), by(whole(2000003), whole(0), whole(0)), fault{1, api.ErrWide}},
		{doc(at(whole(0), whole(1), "a"), at(whole(0), whole(1), "aa")), by(r(1, 360000), whole(0), whole(0)), fault{1, api.ErrTime}},
		// The first cue that has one, whichever it is.
		{doc(at(whole(0), whole(1), "aa"), at(r(1, 1<<20), r(1, 1<<20-1), "")), by(r(1, 360000), whole(0), whole(0)), fault{0, api.ErrTime}},
		{doc(at(r(1, 1<<20), r(1, 1<<20-1), ""), at(whole(1), whole(2), "aa")), by(r(1, 360000), r(1, 1<<20-3), whole(0)), fault{0, api.ErrWide}},
	}
}

// TestWrong: P1103 and P1104: the document, the rules, then each cue; P4: nothing beside an error.
func TestWrong(t *testing.T) {
	for n, x := range wrongs() {
		fast, err := speed.Look(x.d, x.rules)
		if !x.want.is(err) || len(fast) > 0 {
			t.Errorf("%d: Look: %v, %v; want %+v", n, fast, err, x.want)
		}
		y, fast, err := speed.Fit(x.d, x.rules)
		if !x.want.is(err) || len(fast)+len(y.Cues) > 0 {
			t.Errorf("%d: Fit: %v, %v, %v; want %+v", n, y, fast, err, x.want)
		}
	}
}

// TestLook: P1103 and the example 2.
func TestLook(t *testing.T) {
	wide := by(r(1<<20-1, 1), whole(0), whole(0)) // a sign wants 1/1048575
	for n, x := range []struct {
		d     api.Doc
		rules speed.Rules
		want  []speed.Fast
		f     fault
	}{
		{api.Doc{}, usual(), nil, fault{}},
		{doc(at(whole(0), r(1, 4), "aaaaa"), at(r(1, 2), whole(3), "aaaaa")), usual(), []speed.Fast{{Cue: 0, Lacks: r(3, 4)}}, fault{}},
		{doc(at(whole(0), whole(1), strings.Repeat("a", 10))), usual(), nil, fault{}},
		{doc(at(whole(0), whole(1), strings.Repeat("a", 11))), usual(), []speed.Fast{{Cue: 0, Lacks: r(1, 10)}}, fault{}},
		{doc(at(whole(7), r(799, 100), "")), usual(), []speed.Fast{{Cue: 0, Lacks: r(1, 100)}}, fault{}},
		// The number is the cue's, not the list's; a gap that is too short is nothing to Look.
		{doc(at(whole(0), whole(1), "a"), at(whole(1), whole(2), "a"), at(whole(2), r(5, 2), "a"), at(r(5, 2), whole(9), "a"), at(whole(9), r(19, 2), "a")), usual(),
			[]speed.Fast{{Cue: 2, Lacks: r(1, 2)}, {Cue: 4, Lacks: r(1, 2)}}, fault{}},
		{doc(at(whole(0), whole(1), "")), by(whole(1), whole(360000), whole(0)), []speed.Fast{{Cue: 0, Lacks: whole(359999)}}, fault{}},
		// End less Start does not fit, of a cue that is seen long enough or not.
		{doc(at(r(1, 1<<20), r(1<<20-2, 1<<20-1), "")), by(whole(1), whole(0), whole(0)), nil, fault{0, api.ErrWide}},
		{doc(at(whole(0), whole(1), ""), at(r(1, 1<<20), r(1, 1<<20-1), "")), usual(), nil, fault{1, api.ErrWide}},
		{doc(at(r(1, 1<<20), r(3, 1<<20), "")), by(whole(1), whole(0), whole(0)), nil, fault{}},
		{doc(at(r(1, 32768), r(1, 32767), "")), by(whole(1), whole(0), whole(0)), nil, fault{}},
		{doc(at(r(1, 65537), r(1, 32767), "")), by(whole(1), whole(0), whole(0)), nil, fault{}},
		{doc(at(r(1, 65537), r(1, 32768), "")), by(whole(1), whole(0), whole(0)), nil, fault{0, api.ErrWide}},
		// What it lacks does not fit; what it has too much need not.
		{doc(at(whole(0), r(1, 1<<20), "a")), wide, nil, fault{0, api.ErrWide}},
		{doc(at(whole(0), r(3, 1<<20), "a")), wide, nil, fault{}},
		{doc(at(whole(0), r(1, 1<<20-1), "a")), wide, nil, fault{}},
	} {
		fast, err := speed.Look(x.d, x.rules)
		if !x.f.is(err) || !slices.Equal(fast, x.want) {
			t.Errorf("%d: %v, %v; want %v, %+v", n, fast, err, x.want, x.f)
		}
	}
}

// TestFit: P1104 and the example 2: of the first cue, where it ends, and what it lacks then.
func TestFit(t *testing.T) {
	early := at(whole(0), r(1, 4), "aaaaa")
	late := func(from api.Ratio) api.Cue { return at(from, whole(9), "aaaaa") }
	last := at(whole(359999), r(719999, 2), "a")
	for n, x := range []struct {
		rules speed.Rules
		d     api.Doc
		end   api.Ratio
		lacks api.Ratio
	}{
		{usual(), doc(early, late(r(1, 2))), r(2, 5), r(3, 5)},
		{usual(), doc(early, in(1, 0, late(r(1, 2)))), whole(1), whole(0)},
		{usual(), doc(early, in(0, 1, late(r(1, 2)))), whole(1), whole(0)},
		{usual(), doc(early, in(0, 1, late(r(1, 2))), late(r(3, 4))), r(13, 20), r(7, 20)},
		{usual(), doc(in(3, 1, early), late(r(1, 2)), in(3, 0, late(r(1, 2))), in(3, 1, late(r(3, 4)))), r(13, 20), r(7, 20)},
		{usual(), doc(early), whole(1), whole(0)},
		// No room: the limit is at its end, ahead of it, ahead of 0; it never ends earlier.
		{usual(), doc(early, late(r(7, 20))), r(1, 4), r(3, 4)},
		{usual(), doc(early, late(r(3, 10))), r(1, 4), r(3, 4)},
		{usual(), doc(early, late(r(1, 4))), r(1, 4), r(3, 4)},
		{by(whole(10), whole(1), whole(2)), doc(early, late(r(1, 2))), r(1, 4), r(3, 4)},
		// The room is as long as it wants, or longer.
		{usual(), doc(early, late(r(11, 10))), whole(1), whole(0)},
		{usual(), doc(early, late(whole(2))), whole(1), whole(0)},
		{usual(), doc(early, late(r(109, 100))), r(99, 100), r(1, 100)},
		// No gap: up to where the next one begins.
		{by(whole(10), whole(1), whole(0)), doc(early, late(r(1, 2))), r(1, 2), r(1, 2)},
		// One that begins ahead of its end is not the next one; one that begins there is.
		{usual(), doc(early, late(r(1, 5))), whole(1), whole(0)},
		{usual(), doc(early, late(r(1, 5)), late(r(1, 2))), r(2, 5), r(3, 5)},
		{usual(), doc(early, late(r(1, 5)), late(r(1, 4)), late(r(1, 2))), r(1, 4), r(3, 4)},
		// Long enough: it stays as it is, however far that is.
		{usual(), doc(at(whole(0), whole(1), "aaaaa"), late(whole(2))), whole(1), whole(0)},
		{usual(), doc(at(whole(0), whole(5), "aaaaa"), late(whole(2))), whole(5), whole(0)},
		// Nothing behind: up to the end of times.
		{usual(), doc(last), whole(360000), whole(0)},
		{by(whole(10), whole(2), whole(9)), doc(last), whole(360000), whole(1)},
		{by(whole(1), whole(360000), whole(0)), doc(early), whole(360000), whole(0)},
		// The text's own wish.
		{by(whole(10), whole(0), whole(0)), doc(early), r(1, 2), whole(0)},
		{by(whole(20), whole(0), whole(0)), doc(early), r(1, 4), whole(0)},
		{by(whole(25), whole(0), whole(0)), doc(early), r(1, 4), whole(0)},
	} {
		y, fast, err := speed.Fit(x.d, x.rules)
		if err != nil || len(y.Cues) != len(x.d.Cues) || y.Cues[0].End != x.end {
			t.Errorf("%d: %v, %v; want %v", n, y, err, x.end)
		}
		var want []speed.Fast
		if x.lacks.N > 0 {
			want = []speed.Fast{{Cue: 0, Lacks: x.lacks}}
		}
		if !slices.Equal(fast, want) {
			t.Errorf("%d: %v; want %v", n, fast, want)
		}
	}
}

// TestFitSorts: P1104: cues that come to end behind others stand behind them; those alike as they stood; the rest of each is as it was, and the list goes by the new numbers.
func TestFitSorts(t *testing.T) {
	spans := []api.Span{{From: 1, To: 2, Kind: api.KItalic}, {From: 0, To: 3, Kind: api.KColour, Value: 7}}
	a := api.Cue{Start: whole(0), End: r(1, 4), Lane: 3, Side: api.High, Name: "Ann", Text: api.Text{S: "aaa", Spans: spans}}
	b := in(1, 0, at(whole(0), r(1, 2), "b"))
	b2 := in(2, 0, at(whole(0), r(1, 2), "b2"))
	next := in(1, 0, at(r(3, 5), whole(2), "n"))
	c := in(3, 0, at(whole(1), r(5, 4), "c"))
	x, fast, err := speed.Fit(doc(a, b, b2, next, c), usual())
	stay := func(x api.Cue, end api.Ratio) api.Cue { x.End = end; return x }
	want := doc(b, stay(a, whole(1)), stay(b2, whole(1)), next, stay(c, whole(2)))
	if err != nil || !sameDoc(x, want) || !slices.Equal(fast, []speed.Fast{{Cue: 0, Lacks: r(1, 2)}}) {
		t.Errorf("%+v, %v, %v; want %+v", x, fast, err, want)
	}
}

// TestFitWide: P1104: what does not fit: Start and Wants of any cue, the limit of one that wants more, then Look's errors of what comes out.
func TestFitWide(t *testing.T) {
	odd, grid := int64(1<<20-1), int64(1<<20)
	least := func(x api.Ratio) speed.Rules { return by(whole(1), x, whole(0)) }
	gap := func(x api.Ratio) speed.Rules { return by(whole(1), whole(1), x) }
	for n, x := range []struct {
		d     api.Doc
		rules speed.Rules
		want  fault
	}{
		// Start and Wants is no right ratio, or its D above MaxGrid, though the cue is seen long enough.
		{doc(at(r(1, grid), whole(5), "")), least(r(1, odd)), fault{0, api.ErrWide}},
		{doc(at(r(1, 1024), whole(5), "")), least(r(1, 1025)), fault{0, api.ErrWide}},
		{doc(at(r(1, 1024), whole(5), "")), least(r(1, 1023)), fault{}},
		{doc(at(whole(0), whole(5), ""), at(r(1, 1024), whole(5), "")), least(r(1, 1025)), fault{1, api.ErrWide}},
		{doc(at(r(1, grid), whole(5), "")), least(r(1, grid)), fault{}},
		// Beyond all times, it only has to fit.
		{doc(at(whole(359999), whole(360000), "")), least(whole(360000)), fault{}},
		{doc(at(r(1, 1025), whole(360000), "")), least(r(359999<<10+1, 1<<10)), fault{0, api.ErrWide}},
		// The limit, of a cue that wants more, though it needs less than that.
		{doc(at(whole(0), r(1, 2), ""), at(r(1025, 1024), whole(5), "")), gap(r(1, 1025)), fault{0, api.ErrWide}},
		{doc(at(whole(0), r(1, 2), ""), at(r(4097, 1024), whole(5), "")), gap(r(1, 1025)), fault{0, api.ErrWide}},
		{doc(at(whole(0), r(1, 2), ""), at(r(grid+1, grid), whole(5), "")), gap(r(1, odd)), fault{0, api.ErrWide}},
		{doc(at(whole(0), r(1, 2), ""), at(r(1025, 1024), whole(5), "")), gap(r(1, 1023)), fault{}},
		{doc(at(whole(0), whole(1), ""), at(r(1025, 1024), whole(5), "")), gap(r(1, 1025)), fault{}},
		{doc(at(whole(0), r(1, 2), ""), in(1, 0, at(r(1025, 1024), whole(5), ""))), gap(r(1, 1025)), fault{}},
		{doc(at(whole(0), whole(1), ""), at(whole(1), r(5, 4), ""), at(r(2049, 1024), whole(5), "")), gap(r(1, 1025)), fault{1, api.ErrWide}},
		// Each cue's errors come one behind the other.
		{doc(at(r(1, 1024), whole(5), ""), at(whole(1), whole(2), "aa")), by(r(1, 360000), r(1, 1025), whole(0)), fault{0, api.ErrWide}},
		{doc(at(whole(0), whole(5), "aa"), at(r(1, 1024), whole(5), "")), by(r(1, 360000), r(1, 1025), whole(0)), fault{0, api.ErrTime}},
		{doc(at(whole(0), r(1, 2), ""), at(r(1025, 1024), whole(5), "aaa")), by(r(1, 180000), whole(1), r(1, 1025)), fault{0, api.ErrWide}},
		// What comes out: a cue that is seen for too odd a time, by the number that it has then.
		{doc(at(whole(0), r(1, 2), ""), at(r(1, grid), r(2*odd+1, odd), "")), gap(whole(0)), fault{1, api.ErrWide}},
		{doc(at(r(1, grid), r(1, 2), ""), in(1, 0, at(r(1, grid), r(odd-1, odd), ""))), by(whole(1), r(1, 2), whole(0)), fault{1, api.ErrWide}},
		{doc(at(r(1, grid), r(1, 2), ""), in(1, 0, at(r(1, grid), r(odd-1, odd), ""))), by(whole(1), r(grid-1, grid), whole(0)), fault{}},
		{doc(at(r(1, grid), r(1, 2), "aa"), in(1, 0, at(r(1, grid), r(odd-1, odd), ""))), by(whole(1), whole(0), whole(0)), fault{0, api.ErrWide}},
	} {
		y, fast, err := speed.Fit(x.d, x.rules)
		if !x.want.is(err) || err != nil && len(y.Cues)+len(fast) > 0 || err == nil && len(y.Cues) != len(x.d.Cues) {
			t.Errorf("%d: %v, %v, %v; want %+v", n, y, fast, err, x.want)
		}
	}
}

// TestMean: P1105 and the example 4.
func TestMean(t *testing.T) {
	ten := strings.Repeat("a", 10)
	odd, grid := int64(1<<20-1), int64(1<<20)
	for n, x := range []struct {
		d    api.Doc
		want float64
		f    fault
	}{
		{doc(at(whole(0), whole(4), ten)), 2.5, fault{}},
		{api.Doc{}, 0, fault{}},
		{doc(at(whole(0), whole(4), "")), 0, fault{}},
		{doc(at(whole(0), whole(4), ten), at(whole(0), whole(1), ten)), 0, fault{1, api.ErrOrder}},
		{doc(at(whole(0), whole(1), ten), at(whole(0), whole(4), ten)), 4, fault{}},
		{doc(at(r(1, 3), r(2, 3), "a b")), 2 / (2.0/3 - third()), fault{}},
		// Floats do not tell these apart.
		{doc(at(r(360000*grid-1, grid), r(360000*odd-1, odd), ten)), 0, fault{0, api.ErrBack}},
		{doc(at(r(360000*odd-1, odd), r(360000*grid-1, grid), ten)), 0, fault{}},
		{doc(at(whole(0), whole(1), ten), at(r(360000*odd-1, odd), r(360000*grid-1, grid), ten)), 20, fault{}},
		{doc(at(whole(1), whole(1), ten)), 0, fault{0, api.ErrBack}},
	} {
		got, err := speed.Mean(x.d)
		if !x.f.is(err) || got != x.want || math.Signbit(got) {
			t.Errorf("%d: %v, %v; want %v, %+v", n, got, err, x.want, x.f)
		}
	}
}

// third is 1/3 as a float, not as a constant, which would be exact.
func third() float64 {
	one, three := 1.0, 3.0
	return one / three
}
