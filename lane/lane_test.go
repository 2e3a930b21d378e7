package lane_test

import (
	"errors"
	"math"
	"slices"
	"strings"
	"testing"

	"surtitle/api"
	"surtitle/cue"
	"surtitle/lane"
)

func r(n, d int64) api.Ratio { return api.Ratio{N: n, D: d} }

func whole(n int64) api.Ratio { return r(n, 1) }

// at is a cue of these times.
func at(from, to api.Ratio, s string) api.Cue {
	return api.Cue{Start: from, End: to, Text: api.Text{S: s}}
}

// low and high are cues of whole seconds.
func low(from, to int64, s string) api.Cue { return at(whole(from), whole(to), s) }

func high(from, to int64, s string) api.Cue {
	x := low(from, to, s)
	x.Side = api.High
	return x
}

// but is a cue of which something is another thing.
func but(x api.Cue, turn func(*api.Cue)) api.Cue {
	turn(&x)
	return x
}

func doc(l ...api.Cue) api.Doc { return api.Doc{Cues: l} }

// times is a document of the same cue, so many times.
func times(n int, x api.Cue) api.Doc { return doc(slices.Repeat([]api.Cue{x}, n)...) }

func sameCue(x, y api.Cue) bool {
	return x.Start == y.Start && x.End == y.End && x.Lane == y.Lane && x.Side == y.Side && x.Name == y.Name &&
		x.Text.S == y.Text.S && slices.Equal(x.Text.Spans, y.Text.Spans)
}

func sameDoc(x, y api.Doc) bool { return slices.EqualFunc(x.Cues, y.Cues, sameCue) }

// fault is what an error should be; OK: none.
type fault struct {
	cue int
	e   api.Errno
}

// is tells whether an error is that one.
func (f fault) is(err error) bool {
	if f.e == api.OK {
		return err == nil
	}
	w, ok := err.(*cue.Wrong)
	return ok && w != nil && *w == cue.Wrong{Cue: f.cue, Err: f.e}
}

// count are the numbers from 0 on, so many.
func count(n int) []int {
	var l []int
	for k := range n {
		l = append(l, k)
	}
	return l
}

// TestLanes: P1301 and the example 1.
func TestLanes(t *testing.T) {
	// Times that differ by less than small floats can tell.
	early, late := r(1<<20-2, 1<<20-1), r(1<<20-1, 1<<20)
	for n, x := range []struct {
		d    api.Doc
		want []int
		many int
	}{
		{doc(), nil, 0},
		{doc(low(3, 5, "")), []int{0}, 1},
		{doc(high(3, 5, "")), []int{0}, 1},
		{doc(low(0, 2, ""), low(1, 3, ""), low(2, 4, "")), []int{0, 1, 0}, 2},
		{doc(low(0, 2, ""), high(1, 3, ""), low(2, 4, "")), []int{0, 0, 0}, 1},
		// one that ends where another one begins is active no more
		{doc(low(0, 1, ""), low(1, 2, ""), low(2, 3, "")), []int{0, 0, 0}, 1},
		{doc(low(0, 1, ""), low(0, 1, ""), low(0, 2, "")), []int{0, 1, 2}, 3},
		// the least one that is free, whichever ends first
		{doc(low(0, 5, ""), low(0, 9, ""), low(1, 3, ""), low(4, 6, ""), low(5, 7, "")), []int{0, 1, 2, 2, 0}, 3},
		{doc(low(0, 9, ""), low(1, 3, ""), low(2, 9, ""), low(3, 9, ""), low(4, 9, "")), []int{0, 1, 2, 1, 3}, 4},
		// a number is free again, though the cue ahead of it in the order has another one
		{doc(low(0, 2, ""), low(1, 9, ""), low(3, 4, ""), low(3, 5, "")), []int{0, 1, 0, 2}, 3},
		// each side counts by itself; how many: of both together
		{doc(low(0, 9, ""), low(0, 9, ""), high(0, 9, ""), low(0, 9, ""), high(0, 9, "")), []int{0, 1, 0, 2, 1}, 3},
		{doc(high(0, 9, ""), high(0, 9, ""), low(1, 9, "")), []int{0, 1, 0}, 2},
		{doc(high(0, 2, ""), low(0, 9, ""), high(1, 9, ""), low(2, 3, ""), high(2, 3, "")), []int{0, 0, 1, 1, 0}, 2},
		// lanes, names and texts that the cues have do not matter
		{doc(but(low(0, 9, "a"), func(x *api.Cue) { x.Lane = 7 }), but(low(1, 9, "b"), func(x *api.Cue) { x.Lane, x.Name = 3, "Ann" })), []int{0, 1}, 2},
		{times(9, low(0, 1, "")), count(9), 9},
		{doc(at(whole(0), late, ""), at(early, whole(2), "")), []int{0, 1}, 2},
		{doc(at(whole(0), early, ""), at(late, whole(2), "")), []int{0, 0}, 1},
		{doc(low(0, api.MaxTime, ""), low(api.MaxTime-1, api.MaxTime, "")), []int{0, 1}, 2},
	} {
		l, many, err := lane.Lanes(x.d)
		if err != nil || many != x.many || !slices.Equal(l, x.want) {
			t.Errorf("%d: Lanes: %v, %d, %v; want %v, %d", n, l, many, err, x.want, x.many)
		}
	}
}

// TestLay: P1302 and the example 2: the first that finds no lane; all else stays what it is.
func TestLay(t *testing.T) {
	eight := times(8, low(0, 5, "")).Cues
	rich := but(high(0, 5, "a\nb"), func(x *api.Cue) {
		x.Lane, x.Name, x.Text.Spans = 5, "Ann", []api.Span{{From: 0, To: 1, Kind: api.KBold}}
	})
	for n, x := range []struct {
		d    api.Doc
		want []int
		f    fault
	}{
		{doc(), nil, fault{}},
		{doc(low(0, 2, ""), low(1, 3, ""), low(2, 4, "")), []int{0, 1, 0}, fault{}},
		{doc(rich, rich, rich), []int{0, 1, 2}, fault{}},
		{doc(eight...), count(8), fault{}},
		{times(9, low(0, 1, "")), nil, fault{8, api.ErrFull}},
		{times(20, high(0, 1, "")), nil, fault{8, api.ErrFull}},
		{doc(append(slices.Clone(eight), high(0, 5, ""))...), []int{0, 1, 2, 3, 4, 5, 6, 7, 0}, fault{}},
		{doc(append(slices.Clone(eight), low(5, 6, ""))...), []int{0, 1, 2, 3, 4, 5, 6, 7, 0}, fault{}},
		{doc(append(slices.Clone(eight), high(4, 6, ""), low(4, 6, ""))...), nil, fault{9, api.ErrFull}},
		{doc(append(slices.Clone(eight), low(4, 6, ""), low(4, 7, ""))...), nil, fault{8, api.ErrFull}},
	} {
		want := cue.Twin(x.d)
		if x.f.e != api.OK {
			want = doc()
		}
		for k, n := range x.want {
			want.Cues[k].Lane = n
		}
		got, err := lane.Lay(x.d)
		if !x.f.is(err) || !sameDoc(got, want) {
			t.Errorf("%d: Lay: %+v, %v; want %+v, %v", n, got, err, want, x.f)
		}
	}
	_, err := lane.Lay(times(9, low(0, 1, "")))
	if err == nil || err.Error() != "cue 8: full" || !errors.Is(err, api.ErrFull) {
		t.Error(err)
	}
}

// TestRows: P1303 and the examples 2 and 3.
func TestRows(t *testing.T) {
	type places = []lane.Place
	row := func(l ...int) places {
		var p places
		for _, n := range l {
			p = append(p, lane.Place{Row: n, Rows: 1})
		}
		return p
	}
	two, three := "a\nb", "a\nb\nc"
	for n, x := range []struct {
		d           api.Doc
		rows, width int
		want        places
		f           fault
	}{
		{doc(), 1, 2, nil, fault{}},
		{times(9, low(0, 1, "x")), 9, 10, row(8, 7, 6, 5, 4, 3, 2, 1, 0), fault{}},
		{times(9, low(0, 1, "x")), 8, 10, nil, fault{8, api.ErrFull}},
		{times(9, high(0, 1, "x")), 9, 10, row(0, 1, 2, 3, 4, 5, 6, 7, 8), fault{}},
		{times(9, high(0, 1, "x")), 8, 10, nil, fault{8, api.ErrFull}},
		{doc(low(0, 2, two), high(0, 2, "c")), 3, 10, places{{1, 2}, {0, 1}}, fault{}},
		{doc(low(0, 2, two), high(0, 2, "c"), low(0, 2, "")), 3, 10, nil, fault{2, api.ErrFull}},
		{doc(low(0, 2, two), high(0, 2, "c"), high(1, 2, "")), 3, 10, nil, fault{2, api.ErrFull}},
		// a text without signs has a line
		{doc(low(0, 1, "")), 1, 2, row(0), fault{}},
		{doc(low(0, 1, "\n")), 1, 2, nil, fault{0, api.ErrFull}},
		{doc(low(0, 1, "\n")), 2, 2, places{{0, 2}}, fault{}},
		// lines by the width
		{doc(low(0, 1, "aaa bb cc")), 5, 6, places{{3, 2}}, fault{}},
		{doc(high(0, 1, "aaa bb cc")), 5, 6, places{{0, 2}}, fault{}},
		{doc(low(0, 1, "aaa bb cc")), 5, 9, places{{4, 1}}, fault{}},
		{doc(high(0, 1, "中中中")), 3, 2, places{{0, 3}}, fault{}},
		{doc(high(0, 1, "中中中")), 2, 2, nil, fault{0, api.ErrFull}},
		{doc(low(0, 1, strings.Repeat("a", 400))), 100, 200, places{{98, 2}}, fault{}},
		{doc(low(0, 1, strings.Repeat("a", 200))), 100, 2, places{{0, 100}}, fault{}},
		{doc(low(0, 1, strings.Repeat("a", 201))), 100, 2, nil, fault{0, api.ErrFull}},
		// the same text, of either side
		{doc(low(0, 1, two), high(0, 1, two), low(0, 1, two)), 6, 9, places{{4, 2}, {0, 2}, {2, 2}}, fault{}},
		// rows are free again when their cue has ended
		{doc(low(0, 1, two), low(1, 2, three), low(2, 3, "")), 3, 9, places{{1, 2}, {0, 3}, {2, 1}}, fault{}},
		{doc(low(0, 1, two), low(0, 2, ""), low(1, 2, two)), 3, 9, places{{1, 2}, {0, 1}, {1, 2}}, fault{}},
		{doc(low(0, 1, two), low(0, 2, ""), low(1, 2, three)), 5, 9, nil, fault{2, api.ErrFull}},
		// the lowest, the highest that are one below the other: what is too small is passed over
		{doc(low(0, 1, ""), low(0, 9, ""), low(1, 9, two), low(1, 9, "")), 4, 9, places{{3, 1}, {2, 1}, {0, 2}, {3, 1}}, fault{}},
		{doc(high(0, 1, ""), high(0, 9, ""), high(1, 9, two), high(1, 9, "")), 4, 9, places{{0, 1}, {1, 1}, {2, 2}, {0, 1}}, fault{}},
		// free rows that do not stand together are of no use
		{doc(low(0, 9, ""), low(1, 3, ""), low(2, 9, ""), low(3, 9, two)), 4, 9, nil, fault{3, api.ErrFull}},
		{doc(high(0, 9, ""), high(1, 3, ""), high(2, 9, ""), high(3, 9, two)), 4, 9, nil, fault{3, api.ErrFull}},
		{doc(low(0, 1, ""), low(0, 1, two), low(0, 9, ""), low(0, 9, ""), low(1, 9, three)), 5, 9, places{{4, 1}, {2, 2}, {1, 1}, {0, 1}, {2, 3}}, fault{}},
		// both sides share the rows
		{doc(high(0, 9, two), low(0, 9, two), high(1, 9, "")), 4, 9, nil, fault{2, api.ErrFull}},
		{doc(high(0, 9, two), low(0, 9, ""), high(1, 9, ""), low(2, 9, "")), 5, 9, places{{0, 2}, {4, 1}, {2, 1}, {3, 1}}, fault{}},
		{doc(high(0, 9, three), low(1, 9, "")), 3, 9, nil, fault{1, api.ErrFull}},
		// a cue that is too great, and one for which there is no room, by their order
		{doc(low(0, 1, "x"), low(0, 1, three), low(0, 1, "x")), 2, 9, nil, fault{1, api.ErrFull}},
		// lanes do not matter
		{doc(but(low(0, 1, "x"), func(x *api.Cue) { x.Lane = 7 }), low(0, 1, "x")), 2, 9, row(1, 0), fault{}},
	} {
		l, err := lane.Rows(x.d, x.rows, x.width)
		if !x.f.is(err) || !slices.Equal(l, x.want) {
			t.Errorf("%d: Rows(%d, %d): %v, %v; want %v, %v", n, x.rows, x.width, l, err, x.want, x.f)
		}
	}
	_, err := lane.Rows(times(9, low(0, 1, "x")), 8, 10)
	if err == nil || err.Error() != "cue 8: full" || !errors.Is(err, api.ErrFull) {
		t.Error(err)
	}
}

// TestRowsRefused: P1303: rows and widths that may be, and may not, with cues and without, ahead of ErrFull.
func TestRowsRefused(t *testing.T) {
	for _, rows := range []int{math.MinInt, -1, 0, 1, 2, 99, 100, 101, math.MaxInt} {
		for _, width := range []int{math.MinInt, -1, 0, 1, 2, 3, 199, 200, 201, math.MaxInt} {
			wrong := rows < 1 || rows > 100 || width < 2 || width > 200
			for _, d := range []api.Doc{doc(), times(2, low(0, 1, "")), times(101, low(0, 1, ""))} {
				f := fault{}
				if rows < len(d.Cues) {
					f = fault{rows, api.ErrFull}
				}
				if wrong {
					f = fault{0, api.ErrArg}
				}
				l, err := lane.Rows(d, rows, width)
				if !f.is(err) || err != nil && len(l) > 0 || err == nil && len(l) != len(d.Cues) {
					t.Errorf("Rows(.., %d, %d) of %d cues: %v, %v; want %v", rows, width, len(d.Cues), l, err, f)
				}
			}
		}
	}
}

// TestNotRight: CheckDoc's error comes first, of all calls.
func TestNotRight(t *testing.T) {
	for _, d := range []api.Doc{
		doc(low(1, 1, "")),
		doc(low(0, 1, ""), low(-1, 1, "")),
		doc(low(0, 1, ""), low(0, api.MaxTime+1, "")),
		doc(low(0, 1, ""), at(r(1, 2), r(2, 2), "")),
		doc(at(whole(0), r(1, 1<<20+1), "")),
		doc(low(2, 3, ""), low(1, 5, "")),
		doc(low(1, 3, ""), low(1, 2, "")),
		doc(low(0, 1, ""), but(low(0, 1, ""), func(x *api.Cue) { x.Lane = 8 })),
		doc(low(0, 1, ""), but(low(0, 1, ""), func(x *api.Cue) { x.Side = 2 })),
		doc(low(0, 1, ""), but(low(0, 1, ""), func(x *api.Cue) { x.Side = -1 })),
		doc(but(low(0, 1, ""), func(x *api.Cue) { x.Name = "\n" })),
		doc(but(low(0, 1, "a"), func(x *api.Cue) { x.Text.Spans = []api.Span{{From: 0, To: 2, Kind: 1}} })),
		doc(low(0, 1, strings.Repeat("x", 4097))),
		// ahead of what is full
		doc(append(times(9, low(0, 1, "")).Cues, low(3, 2, ""))...),
		times(4097, low(0, 1, "")),
		doc(api.Cue{}),
	} {
		holdWrong(t, d)
	}
}
