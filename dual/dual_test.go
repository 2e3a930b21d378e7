package dual_test

import (
	"errors"
	"slices"
	"strings"
	"testing"

	"surtitle/api"
	"surtitle/cue"
	"surtitle/dual"
)

func r(n, d int64) api.Ratio { return api.Ratio{N: n, D: d} }

func whole(n int64) api.Ratio { return r(n, 1) }

// at is a cue of these times.
func at(from, to api.Ratio, s string) api.Cue {
	return api.Cue{Start: from, End: to, Text: api.Text{S: s}}
}

// low and high are cues of whole seconds.
func low(from, to int64, s string) api.Cue { return at(whole(from), whole(to), s) }

func high(from, to int64, s string) api.Cue { return up(low(from, to, s)) }

// up is a cue on the upper side of the screen.
func up(x api.Cue) api.Cue {
	x.Side = api.High
	return x
}

// but is a cue of which something is another thing.
func but(x api.Cue, turn func(*api.Cue)) api.Cue {
	turn(&x)
	return x
}

func doc(l ...api.Cue) api.Doc { return api.Doc{Cues: l} }

// secs is a document of cues from and to whole seconds.
func secs(l ...int64) api.Doc {
	var d api.Doc
	for i := 0; i < len(l); i += 2 {
		d.Cues = append(d.Cues, low(l[i], l[i+1], ""))
	}
	return d
}

// times is a document of the same cue, so many times.
func times(n int, x api.Cue) api.Doc { return doc(slices.Repeat([]api.Cue{x}, n)...) }

func sameCue(x, y api.Cue) bool {
	return x.Start == y.Start && x.End == y.End && x.Lane == y.Lane && x.Side == y.Side && x.Name == y.Name &&
		x.Text.S == y.Text.S && slices.Equal(x.Text.Spans, y.Text.Spans)
}

func sameDoc(x, y api.Doc) bool { return slices.EqualFunc(x.Cues, y.Cues, sameCue) }

// fault is what an error should be; OK: none.
type fault struct {
	cue int
	e   api.Errno
}

// is tells whether an error is that one.
func (f fault) is(err error) bool {
	if f.e == api.OK {
		return err == nil
	}
	w, ok := err.(*cue.Wrong)
	return ok && w != nil && *w == cue.Wrong{Cue: f.cue, Err: f.e}
}

type pairs = [][2]int

// TestPairs: P1901 and the examples 1, 2 and 4.
func TestPairs(t *testing.T) {
	for n, x := range []struct {
		a, b api.Doc
		want pairs
	}{
		{doc(), doc(), nil},
		{doc(), secs(0, 1), nil},
		{secs(0, 1), doc(), nil},
		{secs(0, 2, 2, 4), secs(0, 1, 1, 4), pairs{{0, 0}, {1, 1}}},
		{secs(0, 10), secs(0, 4, 4, 10), pairs{{0, 1}}},
		{secs(0, 1), secs(0, 1, 0, 1), pairs{{0, 0}}},
		{secs(0, 2), doc(low(0, 1, ""), at(r(1, 2), whole(9), "")), pairs{{0, 1}}},
		{secs(0, 2), secs(1, 9, 1, 10), pairs{{0, 0}}},
		{secs(0, 9), secs(0, 1, 1, 3, 2, 9), pairs{{0, 2}}},
		// those that only touch, or lie apart, share nothing
		{secs(0, 1), secs(1, 2), nil},
		{secs(1, 2), secs(0, 1), nil},
		{secs(0, 1, 5, 6), secs(2, 3, 3, 4), nil},
		{secs(0, 1, 2, 3, 5, 6), secs(1, 2, 5, 7), pairs{{2, 1}}},
		// the greatest sum, though others are more pairs
		{secs(0, 1, 1, 20), secs(0, 19, 19, 20), pairs{{1, 0}}},
		{secs(0, 19, 19, 20), secs(0, 1, 1, 20), pairs{{0, 1}}},
		// the greatest sum, though not with the greatest pair: (1, 0) shares 5, (0, 0) and (1, 1) share 3 each
		{secs(0, 4, 1, 10), secs(1, 6, 6, 9), pairs{{0, 0}, {1, 1}}},
		// both numbers rise: (0, 1) and (1, 0) do not stand together
		{secs(0, 9, 1, 2), secs(1, 2, 1, 9), pairs{{0, 1}}},
		{secs(1, 2, 1, 9), secs(0, 9, 1, 2), pairs{{1, 0}}},
		// of as great sums the most pairs: not (0, 1), which shares as much as both
		{secs(0, 2, 1, 2), secs(0, 1, 0, 2), pairs{{0, 0}, {1, 1}}},
		// the most pairs, though (0, 0), (1, 2), which share 8, too, would come first
		{secs(1, 4, 2, 8, 3, 5, 7, 12), secs(1, 6, 3, 5, 3, 9), pairs{{1, 0}, {2, 1}, {3, 2}}},
		{secs(0, 6, 3, 5, 5, 11), secs(3, 4, 3, 9, 4, 6, 6, 7, 7, 8), pairs{{0, 1}, {1, 2}, {2, 3}}},
		// of as many the ones that are first
		{secs(0, 1, 0, 1), secs(0, 1), pairs{{0, 0}}},
		{secs(0, 1, 0, 1), secs(0, 1, 0, 1, 0, 1), pairs{{0, 0}, {1, 1}}},
		{secs(0, 1, 0, 1, 0, 1), secs(0, 1, 0, 1), pairs{{0, 0}, {1, 1}}},
		{secs(2, 6, 6, 9, 7, 9), secs(3, 6, 3, 6, 5, 9), pairs{{0, 0}, {1, 2}}},
		{secs(1, 5, 2, 5), secs(3, 9, 6, 8, 7, 9), pairs{{0, 0}}},
		{secs(4, 7, 7, 10), secs(1, 3, 4, 10, 5, 6), pairs{{0, 1}}},
		// sides, lanes, names and texts do not matter
		{doc(high(0, 1, "a")), doc(but(low(0, 1, "b"), func(x *api.Cue) { x.Lane, x.Name = 7, "Ann" })), pairs{{0, 0}}},
		{doc(high(0, 1, "a")), doc(high(0, 1, "a")), pairs{{0, 0}}},
		// the last times
		{secs(0, 1, api.MaxTime-1, api.MaxTime), secs(1, api.MaxTime), pairs{{1, 0}}},
		{secs(0, api.MaxTime), secs(0, api.MaxTime), pairs{{0, 0}}},
	} {
		got, err := dual.Pairs(x.a, x.b)
		if err != nil || !slices.Equal(got, x.want) {
			t.Errorf("%d: Pairs: %v, %v; want %v", n, got, err, x.want)
		}
	}
}

// TestThousandths: P1901 and the example 5: each time is rounded by itself, halves up, and what lies between is not.
func TestThousandths(t *testing.T) {
	for n, x := range []struct {
		from, to api.Ratio
		want     bool
	}{
		{whole(0), r(1, 3000), false},
		{whole(0), r(1, 2000), true},
		{whole(0), r(499, 1000000), false},
		{whole(0), r(524, 1<<20-3), false},
		{whole(0), r(525, 1<<20-3), true},
		{r(1, 2000), r(1499, 1000000), false}, // just under a thousandth, from 1 to 1
		{r(1, 2000), r(3, 2000), true},
		{r(499, 1000000), r(1, 2000), true}, // a millionth, from 0 to 1
		{r(3, 5000), r(7, 5000), false},
		{r(1, 2500), r(3, 5000), true},
		{r(999, 1000), whole(1), true},
		{r(1999, 2000), whole(1), false},
	} {
		var want pairs
		if x.want {
			want = pairs{{0, 0}}
		}
		one, all := doc(at(x.from, x.to, "")), secs(0, 1)
		for _, l := range [][2]api.Doc{{one, all}, {all, one}, {one, one}} {
			if got, err := dual.Pairs(l[0], l[1]); err != nil || !slices.Equal(got, want) {
				t.Errorf("%d: Pairs: %v, %v; want %v", n, got, err, want)
			}
		}
	}
	// The one that is longer is not the one that shares more.
	long, short := at(r(501, 1000000), r(1499, 1000000), ""), at(r(1499, 1000000), r(1501, 1000000), "")
	if got, err := dual.Pairs(doc(long, short), secs(0, 1)); err != nil || !slices.Equal(got, pairs{{1, 0}}) {
		t.Error(got, err)
	}
	// 1 and 1 thousandth are as much as 2: more pairs.
	one, two := r(1, 1009), r(2, 1009)
	a, b := doc(at(whole(0), two, ""), at(one, two, "")), doc(at(whole(0), one, ""), at(whole(0), two, ""))
	if got, err := dual.Pairs(a, b); err != nil || !slices.Equal(got, pairs{{0, 0}, {1, 1}}) {
		t.Error(got, err)
	}
}

// TestMerge: P1902 and the examples 3 and 4.
func TestMerge(t *testing.T) {
	for n, x := range []struct {
		a, b, want api.Doc
	}{
		{doc(), doc(), doc()},
		{secs(1, 2, 1, 2), doc(), secs(1, 2, 1, 2)},
		{doc(), secs(1, 2), doc(high(1, 2, ""))},
		{secs(0, 2, 2, 4), secs(0, 1, 1, 4), doc(low(0, 2, ""), high(0, 2, ""), low(2, 4, ""), high(2, 4, ""))},
		{secs(0, 2), doc(low(0, 1, ""), at(r(1, 2), whole(9), "")), doc(high(0, 1, ""), low(0, 2, ""), high(0, 2, ""))},
		{secs(0, 2), secs(1, 9, 1, 10), doc(low(0, 2, ""), high(0, 2, ""), high(1, 10, ""))},
		{secs(0, 9), secs(0, 1, 1, 3, 2, 9), doc(high(0, 1, ""), low(0, 9, ""), high(1, 3, ""), high(2, 9, ""))},
		// what is not paired keeps its times
		{secs(0, 1, 4, 5), secs(2, 3, 6, 7), doc(low(0, 1, ""), high(2, 3, ""), low(4, 5, ""), high(6, 7, ""))},
		// too late for the next one: by its Start, by its End
		{secs(2, 9), secs(0, 8, 1, 2), doc(high(0, 8, ""), high(1, 2, ""), low(2, 9, ""))},
		{secs(1, 9), secs(0, 8, 1, 2), doc(high(0, 8, ""), high(1, 2, ""), low(1, 9, ""))},
		// as late as the next one, as early as the one ahead
		{secs(1, 9), doc(low(0, 9, "x"), low(1, 9, "y")), doc(low(1, 9, ""), high(1, 9, "x"), high(1, 9, "y"))},
		{secs(0, 2, 0, 2), doc(low(0, 2, "x"), low(0, 3, "y")), doc(low(0, 2, ""), low(0, 2, ""), high(0, 2, "x"), high(0, 2, "y"))},
		// too early for the one ahead: by its Start; then (the second pair) by its End
		{doc(at(r(1, 2), whole(9), "")), secs(0, 1, 1, 2, 2, 12), doc(high(0, 1, ""), at(r(1, 2), whole(9), ""), high(1, 2, ""), high(2, 12, ""))},
		{
			secs(0, 4, 1, 3), doc(at(r(1, 2), whole(1), ""), low(1, 5, ""), low(1, 6, "")),
			doc(low(0, 4, ""), up(at(r(1, 2), whole(1), "")), low(1, 3, ""), high(1, 5, ""), high(1, 6, "")),
		},
		// between the one ahead and the next, with the Start of the one ahead
		{secs(1, 9), secs(1, 2, 1, 10, 3, 12), doc(high(1, 2, ""), low(1, 9, ""), high(1, 9, ""), high(3, 12, ""))},
		// the one ahead as it is by then: it has come earlier
		{secs(0, 5, 2, 8), secs(3, 9, 3, 10), doc(low(0, 5, ""), high(0, 5, ""), low(2, 8, ""), high(2, 8, ""))},
		// the next one as it still is: it will be later
		{secs(2, 5, 6, 9), secs(0, 4, 1, 8), doc(high(0, 4, ""), low(2, 5, ""), low(6, 9, ""), high(6, 9, ""))},
		// those with the same times: a's ahead of b's, each as they stand
		{
			doc(low(0, 1, "a"), low(0, 1, "A"), low(0, 2, "c")), doc(low(0, 1, "b"), low(0, 1, "B"), low(5, 6, "d")),
			doc(low(0, 1, "a"), low(0, 1, "A"), high(0, 1, "b"), high(0, 1, "B"), low(0, 2, "c"), high(5, 6, "d")),
		},
	} {
		got, err := dual.Merge(x.a, x.b)
		if err != nil || !sameDoc(got, x.want) {
			t.Errorf("%d: Merge: %+v, %v; want %+v", n, got, err, x.want)
		}
	}
}

// rich is a cue of which nothing is zero but its side.
func rich(from, to int64, s string) api.Cue {
	return but(low(from, to, s), func(x *api.Cue) {
		x.Lane, x.Name, x.Text.Spans = 5, "Ann", []api.Span{{From: 0, To: 1, Kind: api.KColour, Value: 9}}
	})
}

// TestAllElseStays: P1902, P1903: lanes, names, texts and spans stay what they are; only times are set, and sides.
func TestAllElseStays(t *testing.T) {
	d, err := dual.Merge(doc(rich(1, 3, "one")), doc(rich(1, 4, "two"), rich(2, 9, "three")))
	want := doc(rich(1, 3, "one"), up(rich(1, 3, "two")), up(rich(2, 9, "three")))
	if err != nil || !sameDoc(d, want) {
		t.Errorf("%+v, %v; want %+v", d, err, want)
	}
	a, b, err := dual.Apart(d)
	if err != nil || !sameDoc(a, doc(rich(1, 3, "one"))) || !sameDoc(b, doc(rich(1, 3, "two"), rich(2, 9, "three"))) {
		t.Errorf("%+v, %+v, %v", a, b, err)
	}
}

// TestApart: P1903 and the example 5.
func TestApart(t *testing.T) {
	for n, x := range []struct {
		d, a, b api.Doc
	}{
		{doc(), doc(), doc()},
		{secs(0, 1, 0, 2), secs(0, 1, 0, 2), doc()},
		{doc(high(0, 1, "x"), high(0, 2, "y")), doc(), doc(low(0, 1, "x"), low(0, 2, "y"))},
		{
			doc(high(0, 1, "x"), low(0, 1, "a"), low(0, 1, "b"), high(0, 1, "y"), low(2, 3, "c")),
			doc(low(0, 1, "a"), low(0, 1, "b"), low(2, 3, "c")), doc(low(0, 1, "x"), low(0, 1, "y")),
		},
	} {
		a, b, err := dual.Apart(x.d)
		if err != nil || !sameDoc(a, x.a) || !sameDoc(b, x.b) {
			t.Errorf("%d: Apart: %+v, %+v, %v; want %+v, %+v", n, a, b, err, x.a, x.b)
		}
	}
}

// TestNotRight: P1901 to P1903: CheckDoc's error comes first, of a ahead of that of b.
func TestNotRight(t *testing.T) {
	for _, d := range []api.Doc{
		doc(low(1, 1, "")),
		doc(low(0, 1, ""), low(-1, 1, "")),
		doc(low(0, 1, ""), low(0, api.MaxTime+1, "")),
		doc(low(0, 1, ""), at(r(1, 2), r(2, 2), "")),
		doc(at(whole(0), r(1, 1<<20+1), "")),
		doc(low(2, 3, ""), low(1, 5, "")),
		doc(low(1, 3, ""), low(1, 2, "")),
		doc(low(0, 1, ""), but(low(0, 1, ""), func(x *api.Cue) { x.Lane = 8 })),
		doc(low(0, 1, ""), but(low(0, 1, ""), func(x *api.Cue) { x.Side = 2 })),
		doc(low(0, 1, ""), but(low(0, 1, ""), func(x *api.Cue) { x.Side = -1 })),
		doc(but(low(0, 1, ""), func(x *api.Cue) { x.Name = "\n" })),
		doc(but(low(0, 1, "a"), func(x *api.Cue) { x.Text.Spans = []api.Span{{From: 0, To: 2, Kind: 1}} })),
		doc(low(0, 1, strings.Repeat("x", 4097))),
		// ahead of a side
		doc(high(0, 1, ""), low(0, 1, ""), low(3, 2, "")),
		times(4097, low(0, 1, "")),
		doc(api.Cue{}),
	} {
		holdWrong(t, d)
	}
	wrong, worse := secs(0, 1, 2, 2), secs(4, 5, 4, 5, 3, 4)
	for _, call := range calls() {
		for _, x := range []struct {
			a, b api.Doc
			f    fault
		}{
			{wrong, worse, fault{1, api.ErrBack}},
			{worse, wrong, fault{2, api.ErrOrder}},
			{doc(high(0, 1, "")), wrong, fault{1, api.ErrBack}},
			{times(4096, low(0, 1, "")), wrong, fault{1, api.ErrBack}},
			{times(4096, high(0, 1, "")), worse, fault{2, api.ErrOrder}},
		} {
			if err := call(x.a, x.b); !x.f.is(err) {
				t.Errorf("%v; want %v", err, x.f)
			}
		}
	}
}

// calls are those of two documents; they tell the error, and another one if something stands beside it.
func calls() []func(a, b api.Doc) error {
	beside := errors.New("something stands beside an error")
	return []func(a, b api.Doc) error{
		func(a, b api.Doc) error {
			l, err := dual.Pairs(a, b)
			if err != nil && len(l) > 0 {
				return beside
			}
			return err
		},
		func(a, b api.Doc) error {
			d, err := dual.Merge(a, b)
			if err != nil && len(d.Cues) > 0 {
				return beside
			}
			return err
		},
	}
}

// TestRefused: P1901, P1902: too many cues, sides, both sides of each bound, and which comes first.
func TestRefused(t *testing.T) {
	x := low(0, 1, "")
	// with is so many cues, the one of that number on the upper side.
	with := func(n, at int) api.Doc {
		d := times(n, x)
		d.Cues[at].Side = api.High
		return d
	}
	many, lane := fault{0, api.ErrMany}, func(n int) fault { return fault{n, api.ErrLane} }
	for n, x := range []struct {
		a, b         api.Doc
		pairs, merge fault
	}{
		{times(1024, x), times(1024, x), fault{}, fault{}},
		{times(919, x), times(1141, x), many, many}, // 3 too many, the fewest that may be
		{times(1024, x), times(1025, x), many, many},
		{times(1025, x), times(1024, x), many, many},
		{times(4096, x), times(256, x), fault{}, many},
		{times(256, x), times(4096, x), fault{}, many},
		{times(4096, x), times(257, x), many, many},
		{times(4096, x), times(4096, x), many, many},
		{times(3840, x), times(256, x), fault{}, fault{}},
		{times(4096, x), doc(), fault{}, fault{}},
		{doc(), times(4096, x), fault{}, fault{}},
		{times(4095, x), times(1, x), fault{}, fault{}},
		{times(4096, x), times(1, x), fault{}, many},
		{times(1, x), times(4096, x), fault{}, many},
		{with(3, 1), times(2, x), fault{}, lane(1)},
		{times(2, x), with(4, 3), fault{}, lane(3)},
		{with(3, 2), with(4, 0), fault{}, lane(2)},
		{doc(), with(1, 0), fault{}, lane(0)},
		{with(1, 0), doc(), fault{}, lane(0)},
		{with(4096, 4095), times(1, x), fault{}, lane(4095)},
		{times(4096, x), with(2, 1), fault{}, lane(1)},
		{with(2048, 7), with(2048, 5), many, many},
	} {
		for k, f := range []fault{x.pairs, x.merge} {
			if err := calls()[k](x.a, x.b); !f.is(err) {
				t.Errorf("%d: %v; want %v", n, err, f)
			}
		}
	}
	_, err := dual.Merge(with(3, 2), doc())
	if err == nil || err.Error() != "cue 2: lane" || !errors.Is(err, api.ErrLane) {
		t.Error(err)
	}
}
