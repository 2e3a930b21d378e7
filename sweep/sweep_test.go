package sweep_test

import (
	"math"
	"slices"
	"strings"
	"testing"

	"surtitle/api"
	"surtitle/cue"
	"surtitle/sweep"
)

func r(n, d int64) api.Ratio { return api.Ratio{N: n, D: d} }

func whole(n int64) api.Ratio { return r(n, 1) }

// at is a cue of these times.
func at(from, to api.Ratio, s string, spans ...api.Span) api.Cue {
	return api.Cue{Start: from, End: to, Text: api.Text{S: s, Spans: spans}}
}

// secs is a cue of whole seconds.
func secs(from, to int64, s string, spans ...api.Span) api.Cue {
	return at(whole(from), whole(to), s, spans...)
}

// by is a cue of another lane, side and name.
func by(lane, side int, name string, x api.Cue) api.Cue {
	x.Lane, x.Side, x.Name = lane, side, name
	return x
}

// with is a cue of another text.
func with(x api.Cue, t api.Text) api.Cue {
	x.Text = t
	return x
}

func doc(l ...api.Cue) api.Doc { return api.Doc{Cues: l} }

func b(from, to int) api.Span { return api.Span{From: from, To: to, Kind: api.KBold} }

func i(from, to int) api.Span { return api.Span{From: from, To: to, Kind: api.KItalic} }

// heap are so many spans over the first sign.
func heap(n int) []api.Span { return slices.Repeat([]api.Span{b(0, 1)}, n) }

// comb is a text, all of it italic, every other sign of 2 * n bold: its normal form has n bold spans and 2 * n italic ones.
func comb(n int) api.Text {
	t := api.Text{S: strings.Repeat("x", 2*n), Spans: []api.Span{i(0, 2*n)}}
	for k := range n {
		t.Spans = append(t.Spans, b(2*k, 2*k+1))
	}
	return t
}

func sameCue(x, y api.Cue) bool {
	return x.Start == y.Start && x.End == y.End && x.Lane == y.Lane && x.Side == y.Side && x.Name == y.Name &&
		x.Text.S == y.Text.S && slices.Equal(x.Text.Spans, y.Text.Spans)
}

func sameDoc(x, y api.Doc) bool { return slices.EqualFunc(x.Cues, y.Cues, sameCue) }

func seg(from, to int64, cues ...int) api.Seg {
	return api.Seg{From: whole(from), To: whole(to), Cues: cues}
}

func sameSegs(x, y []api.Seg) bool {
	return slices.EqualFunc(x, y, func(x, y api.Seg) bool {
		return x.From == y.From && x.To == y.To && slices.Equal(x.Cues, y.Cues)
	})
}

// fault is what an error should be; OK: none.
type fault struct {
	cue int
	e   api.Errno
}

// is tells whether an error is that one.
func (f fault) is(err error) bool {
	if f.e == api.OK {
		return err == nil
	}
	w, ok := err.(*cue.Wrong)
	return ok && w != nil && *w == cue.Wrong{Cue: f.cue, Err: f.e}
}

// example is the chapter's.
func example() api.Doc { return doc(secs(0, 10, "a"), secs(2, 4, "b"), secs(4, 12, "c")) }

// TestSegments: P1201 and the example 1.
func TestSegments(t *testing.T) {
	for n, x := range []struct {
		d    api.Doc
		want []api.Seg
		most int
	}{
		{doc(), nil, 0},
		{doc(secs(3, 5, "")), []api.Seg{seg(3, 5, 0)}, 1},
		{example(), []api.Seg{seg(0, 2, 0), seg(2, 4, 0, 1), seg(4, 10, 0, 2), seg(10, 12, 2)}, 2},
		// one ends where another one begins: no time is empty, none has both
		{doc(secs(0, 1, ""), secs(1, 2, "")), []api.Seg{seg(0, 1, 0), seg(1, 2, 1)}, 1},
		// a time at which none is active
		{doc(secs(0, 1, ""), secs(3, 4, "")), []api.Seg{seg(0, 1, 0), seg(3, 4, 1)}, 1},
		// the same times
		{doc(secs(0, 1, ""), secs(0, 1, ""), secs(0, 1, "")), []api.Seg{seg(0, 1, 0, 1, 2)}, 3},
		{doc(secs(0, 1, ""), secs(0, 2, ""), secs(0, 3, "")), []api.Seg{seg(0, 1, 0, 1, 2), seg(1, 2, 1, 2), seg(2, 3, 2)}, 3},
		{doc(secs(0, 3, ""), secs(1, 3, ""), secs(2, 3, "")), []api.Seg{seg(0, 1, 0), seg(1, 2, 0, 1), seg(2, 3, 0, 1, 2)}, 3},
		// one ends in the midst of the numbers
		{doc(secs(0, 9, ""), secs(1, 4, ""), secs(2, 9, ""), secs(4, 5, "")),
			[]api.Seg{seg(0, 1, 0), seg(1, 2, 0, 1), seg(2, 4, 0, 1, 2), seg(4, 5, 0, 2, 3), seg(5, 9, 0, 2)}, 3},
		// a mark at which nothing changes but who is active
		{doc(secs(0, 2, ""), secs(0, 4, ""), secs(2, 4, "")), []api.Seg{seg(0, 2, 0, 1), seg(2, 4, 1, 2)}, 2},
		{doc(secs(0, api.MaxTime, "")), []api.Seg{seg(0, api.MaxTime, 0)}, 1},
	} {
		l, err := sweep.Segments(x.d)
		if err != nil || !sameSegs(l, x.want) {
			t.Errorf("%d: Segments: %v, %v; want %v", n, l, err, x.want)
		}
		if most, err := sweep.Most(x.d); most != x.most || err != nil {
			t.Errorf("%d: Most: %d, %v; want %d", n, most, err, x.most)
		}
	}
	// Marks that differ by less than floats can tell.
	l, err := sweep.Segments(doc(at(whole(0), r(1<<20-2, 1<<20-1), ""), at(whole(0), r(1<<20-1, 1<<20), "")))
	if err != nil || len(l) != 2 || l[0].To != r(1<<20-2, 1<<20-1) || l[1].From != l[0].To {
		t.Error(l, err)
	}
}

// TestCovered: P1201 and the example 1: the sum of the lengths, each of which, and each sum on the way, must fit.
func TestCovered(t *testing.T) {
	const p, q = 1000003, 1000033
	for n, x := range []struct {
		d    api.Doc
		want api.Ratio
		f    fault
	}{
		{doc(), whole(0), fault{}},
		{example(), whole(12), fault{}},
		{doc(secs(0, 1, ""), secs(3, 5, "")), whole(3), fault{}},
		{doc(secs(0, 2, ""), secs(0, 2, "")), whole(2), fault{}},
		{doc(at(whole(0), r(1, 2), ""), at(whole(1), r(4, 3), "")), r(5, 6), fault{}},
		{doc(secs(0, api.MaxTime, "")), whole(api.MaxTime), fault{}},
		{doc(at(r(1, 1<<20), r(2, 3), "")), r(2<<20-3, 3<<20), fault{}},
		// a length that does not fit
		{doc(at(r(1, p), r(q-1, q), "")), api.Ratio{}, fault{0, api.ErrWide}},
		{doc(secs(0, 1, ""), at(r(1, p), r(q-1, q), "")), api.Ratio{}, fault{0, api.ErrWide}},
		{doc(secs(0, 1, ""), secs(0, 1, ""), at(whole(2), whole(3), ""), at(r(3*p+1, p), r(4*q-1, q), "")), api.Ratio{}, fault{0, api.ErrWide}},
		// a sum that does not fit
		{doc(at(whole(0), r(1, p), ""), at(whole(1), r(q+1, q), "")), api.Ratio{}, fault{0, api.ErrWide}},
		// one that does not fit on the way, of a sum that would be 2
		{doc(at(whole(0), r(1, p), ""), at(whole(1), r(q+1, q), ""), at(whole(2), r(3*p-1, p), ""), at(whole(3), r(4*q-1, q), "")), api.Ratio{}, fault{0, api.ErrWide}},
		// in this order all of them fit
		{doc(at(whole(0), r(1, p), ""), at(whole(2), r(3*p-1, p), ""), at(whole(3), r(4*q-1, q), ""), at(whole(4), r(4*q+1, q), "")), whole(2), fault{}},
	} {
		if got, err := sweep.Covered(x.d); got != x.want || !x.f.is(err) {
			t.Errorf("%d: Covered: %v, %v; want %v, %v", n, got, err, x.want, x.f)
		}
	}
}

// TestTrim: P1202 and the examples 2 and 3.
func TestTrim(t *testing.T) {
	odd := []api.Span{b(1, 2), i(0, 3), b(0, 3)} // right, but not normal
	for n, x := range []struct {
		d, want api.Doc
	}{
		{doc(), doc()},
		{example(), doc(secs(0, 2, "a"), secs(2, 4, "b"), secs(4, 12, "c"))},
		{doc(secs(0, 1, "x"), secs(0, 3, "y")), doc(secs(0, 3, "x\ny"))},
		{doc(secs(0, 1, "x"), secs(0, 3, "y"), secs(2, 9, "z")), doc(secs(0, 2, "x\ny"), secs(2, 9, "z"))},
		{doc(secs(0, 1, "x"), secs(1, 2, "y"), secs(3, 4, "z")), doc(secs(0, 1, "x"), secs(1, 2, "y"), secs(3, 4, "z"))},
		// Ends that lie behind the next Start alone are changed: the one within ends as it did
		{doc(secs(0, 9, "x"), secs(1, 2, "y"), secs(5, 6, "z")), doc(secs(0, 1, "x"), secs(1, 2, "y"), secs(5, 6, "z"))},
		// Lane, Side and Name of the first, be it by itself or not
		{doc(by(3, api.High, "Ann", secs(0, 1, "x")), by(4, api.Low, "Bob", secs(0, 2, "y")), by(5, api.Low, "Cy", secs(1, 2, "z"))),
			doc(by(3, api.High, "Ann", secs(0, 1, "x\ny")), by(5, api.Low, "Cy", secs(1, 2, "z")))},
		{doc(secs(0, 1, "x"), by(4, api.High, "Bob", secs(0, 2, "y"))), doc(secs(0, 2, "x\ny"))},
		// one alone stays as it is, its text not made normal; those that are joined are
		{doc(secs(0, 1, "abc", odd...)), doc(secs(0, 1, "abc", odd...))},
		{doc(secs(0, 1, "abc", odd...), secs(0, 1, "")), doc(secs(0, 1, "abc\n", b(0, 3), i(0, 3)))},
		{doc(secs(0, 1, "é\xff", b(0, 2)), secs(0, 1, "中", b(0, 1)), secs(0, 1, "\xa9c", i(1, 2))), doc(secs(0, 1, "é\xff\n中\n\xa9c", b(0, 2), b(3, 4), i(6, 7)))},
		{doc(secs(0, 1, ""), secs(0, 1, ""), secs(0, 1, "")), doc(secs(0, 1, "\n\n"))},
		{doc(secs(0, 1, "\xc3"), secs(0, 1, "\xa9")), doc(secs(0, 1, "\xc3\n\xa9"))},
		{doc(secs(0, 1, "a\n"), secs(0, 1, "\nb")), doc(secs(0, 1, "a\n\n\nb"))},
		{doc(with(secs(0, 1, ""), comb(100))), doc(with(secs(0, 1, ""), comb(100)))},
	} {
		if got, err := sweep.Trim(x.d); err != nil || !sameDoc(got, x.want) {
			t.Errorf("%d: Trim: %+v, %v; want %+v", n, got, err, x.want)
		}
	}
}

// TestStack: P1203 and the example 2.
func TestStack(t *testing.T) {
	for n, x := range []struct {
		d, want api.Doc
	}{
		{doc(), doc()},
		{example(), doc(secs(0, 2, "a"), secs(2, 4, "a\nb"), secs(4, 10, "a\nc"), secs(10, 12, "c"))},
		// Lane 0; Side of the first; Name of all, or none
		{doc(by(3, api.High, "Ann", secs(0, 2, "x")), by(4, api.Low, "Ann", secs(1, 3, "y")), by(5, api.High, "Bob", secs(2, 4, "z"))),
			doc(by(0, api.High, "Ann", secs(0, 1, "x")), by(0, api.High, "Ann", secs(1, 2, "x\ny")), by(0, api.Low, "", secs(2, 3, "y\nz")), by(0, api.High, "Bob", secs(3, 4, "z")))},
		{doc(by(0, api.Low, "", secs(0, 2, "x")), by(0, api.High, "Ann", secs(0, 2, "y"))), doc(secs(0, 2, "x\ny"))},
		{doc(by(0, api.Low, "Ann", secs(0, 2, "x")), by(0, api.High, "", secs(0, 2, "y")), by(0, api.High, "Ann", secs(0, 2, "z"))), doc(secs(0, 2, "x\ny\nz"))},
		// one alone is made normal, too
		{doc(secs(0, 1, "abc", b(1, 2), i(0, 3), b(0, 3))), doc(secs(0, 1, "abc", b(0, 3), i(0, 3)))},
		{doc(secs(0, 2, "é\xff", b(0, 2)), secs(1, 2, "中", b(0, 1))), doc(secs(0, 1, "é\xff", b(0, 2)), secs(1, 2, "é\xff\n中", b(0, 2), b(3, 4)))},
		{doc(secs(0, 1, "\xe2"), secs(0, 1, "\x82"), secs(0, 1, "\xac")), doc(secs(0, 1, "\xe2\n\x82\n\xac"))},
		{doc(secs(0, 1, ""), secs(5, 6, "")), doc(secs(0, 1, ""), secs(5, 6, ""))},
	} {
		if got, err := sweep.Stack(x.d); err != nil || !sameDoc(got, x.want) {
			t.Errorf("%d: Stack: %+v, %v; want %+v", n, got, err, x.want)
		}
	}
}

// crowd are texts of cues that are seen at the same time.
func crowd(l ...api.Text) api.Doc {
	d := doc(secs(0, 1, "alone"))
	for _, x := range l {
		d.Cues = append(d.Cues, with(secs(1, 2, ""), x))
	}
	return d
}

// long is a text of so many bytes, with these spans.
func long(n int, spans ...api.Span) api.Text {
	return api.Text{S: strings.Repeat("y", n), Spans: spans}
}

// TestJoinedRefused: P1202 and P1203: the first error of texts that are joined, and the cue that it is of.
func TestJoinedRefused(t *testing.T) {
	for n, x := range []struct {
		d api.Doc
		f fault
	}{
		{crowd(long(2000), long(2095)), fault{}},
		{crowd(long(2000), long(2096)), fault{2, api.ErrLong}},
		{crowd(long(4095), long(0)), fault{}},
		{crowd(long(4096), long(0)), fault{2, api.ErrLong}}, // for its line end alone
		{crowd(long(0), long(4096)), fault{2, api.ErrLong}},
		{crowd(long(0), long(4095)), fault{}},
		{crowd(long(0), long(4094), long(0)), fault{}},
		{crowd(long(0), long(4094), long(0), long(0)), fault{4, api.ErrLong}},
		{crowd(long(1), long(4000), long(4000)), fault{3, api.ErrLong}},
		{crowd(long(4000), long(4000), long(1)), fault{2, api.ErrLong}},
		{crowd(long(4000), long(4000), long(1), long(1)), fault{2, api.ErrLong}},
		{crowd(long(1), long(1), long(4000), long(4000)), fault{4, api.ErrLong}},
		{crowd(long(1), long(4000), long(4000), long(1)), fault{3, api.ErrLong}},
		{crowd(slices.Repeat([]api.Text{long(1)}, 2048)...), fault{}},
		{crowd(slices.Repeat([]api.Text{long(1)}, 2049)...), fault{2049, api.ErrLong}},
		{crowd(slices.Repeat([]api.Text{long(1)}, 4095)...), fault{2049, api.ErrLong}},
		{crowd(slices.Repeat([]api.Text{long(0)}, 4095)...), fault{}},
		// spans are counted as they are joined, though the normal form has one a text
		{crowd(long(1, heap(128)...), long(1, heap(128)...)), fault{}},
		{crowd(long(1, heap(128)...), long(1, heap(129)...)), fault{2, api.ErrMany}},
		{crowd(long(1, heap(256)...), long(1), long(0)), fault{}},
		{crowd(long(1, heap(256)...), long(1), long(1, b(0, 1))), fault{3, api.ErrMany}},
		{crowd(long(1), long(1, heap(200)...), long(1, heap(200)...), long(1)), fault{3, api.ErrMany}},
		// ErrLong ahead of ErrMany, of one cue; but the first cue's error
		{crowd(long(4000, b(0, 1)), long(96, heap(256)...)), fault{2, api.ErrLong}},
		{crowd(long(4000, b(0, 1)), long(95, heap(256)...)), fault{2, api.ErrMany}},
		{crowd(long(4000), long(50, heap(200)...), long(60, heap(100)...)), fault{3, api.ErrLong}},
		{crowd(long(9, heap(200)...), long(9, heap(200)...), long(4096)), fault{2, api.ErrMany}},
		{crowd(long(4000), long(4000), long(9, heap(200)...), long(9, heap(200)...)), fault{2, api.ErrLong}},
		{crowd(long(4000), long(1), long(9, heap(200)...), long(9, heap(200)...)), fault{4, api.ErrMany}},
		// too many when made normal: that is the last one's
		{crowd(comb(80), long(1)), fault{}},
		{crowd(comb(86), long(1)), fault{2, api.ErrMany}},
		{crowd(comb(43), comb(42)), fault{}},
		{crowd(comb(43), comb(43)), fault{2, api.ErrMany}},
		{crowd(comb(86), long(1), long(1), long(1)), fault{4, api.ErrMany}},
		{crowd(comb(86), long(1), long(4096)), fault{3, api.ErrLong}},
	} {
		for name, f := range map[string]func(api.Doc) (api.Doc, error){"Trim": sweep.Trim, "Stack": sweep.Stack} {
			if got, err := f(x.d); !x.f.is(err) || err == nil && len(got.Cues) != 2 || err != nil && len(got.Cues) > 0 {
				t.Errorf("%d: %s: %d cues, %v; want %v", n, name, len(got.Cues), err, x.f)
			}
		}
	}
}

// TestAloneRefused: P1202, P1203: a text whose normal form has too many spans stays as it is in Trim; Stack refuses it, at the first segment that has it.
func TestAloneRefused(t *testing.T) {
	d := doc(secs(0, 2, "a"), with(secs(1, 3, ""), comb(86)), secs(4, 5, "b"), with(secs(6, 7, ""), comb(90)))
	got, err := sweep.Trim(d)
	d.Cues[0].End = whole(1)
	if err != nil || !sameDoc(got, d) {
		t.Errorf("Trim: %+v, %v", got, err)
	}
	for _, x := range []struct {
		d api.Doc
		f fault
	}{
		{d, fault{1, api.ErrMany}},
		{doc(d.Cues[2], d.Cues[3]), fault{1, api.ErrMany}},
		{doc(d.Cues[3]), fault{0, api.ErrMany}},
		{doc(d.Cues[2]), fault{}},
		// segment by segment: the second one has cue 1, and only then 2
		{doc(secs(0, 9, "a"), with(secs(1, 9, ""), long(4096)), with(secs(2, 9, ""), comb(90))), fault{1, api.ErrLong}},
		{doc(secs(0, 1, "a"), with(secs(1, 9, ""), comb(90)), with(secs(2, 9, ""), long(4096))), fault{1, api.ErrMany}},
		{doc(with(secs(0, 2, ""), long(4000)), secs(0, 9, "a"), with(secs(1, 9, ""), long(4000))), fault{2, api.ErrLong}},
	} {
		if got, err := sweep.Stack(x.d); !x.f.is(err) || err != nil && len(got.Cues) > 0 {
			t.Errorf("Stack: %+v, %v; want %v", got, err, x.f)
		}
	}
}

// row are so many cues apart from one another, behind two that have three segments.
func row(n int, t api.Text) api.Doc {
	d := doc(with(secs(0, 2, ""), t), with(secs(1, 3, ""), t))
	for k := range int64(n) {
		d.Cues = append(d.Cues, secs(10+2*k, 11+2*k, "x"))
	}
	return d
}

// TestStackMany: P1203: as many segments as may be cues, and one more, which is refused ahead of texts that can't be joined.
func TestStackMany(t *testing.T) {
	for _, x := range []struct {
		d    api.Doc
		many int
		f    fault
	}{
		{row(4093, long(1)), 4096, fault{}},
		{row(4094, long(1)), 0, fault{0, api.ErrMany}},
		{row(4093, long(4096)), 0, fault{1, api.ErrLong}},
		{row(4094, long(4096)), 0, fault{0, api.ErrMany}},
		{row(4094, comb(90)), 0, fault{0, api.ErrMany}},
		{doc(row(4094, long(1)).Cues[1:]...), 4095, fault{}},
	} {
		if got, err := sweep.Stack(x.d); !x.f.is(err) || len(got.Cues) != x.many {
			t.Errorf("Stack: %d cues, %v; want %d, %v", len(got.Cues), err, x.many, x.f)
		}
		if _, err := sweep.Trim(x.d); err != nil {
			t.Error("Trim:", err)
		}
	}
}

// TestOverlaps: P1204 and the example 1.
func TestOverlaps(t *testing.T) {
	three := doc(secs(0, 9, ""), secs(0, 9, ""), secs(0, 9, ""))
	for n, x := range []struct {
		d    api.Doc
		most int
		want [][2]int
		f    fault
	}{
		{example(), 9, [][2]int{{0, 1}, {0, 2}}, fault{}},
		{example(), 2, [][2]int{{0, 1}, {0, 2}}, fault{}},
		{example(), 1, [][2]int{{0, 1}}, fault{}},
		{example(), 0, nil, fault{}},
		{example(), -1, nil, fault{0, api.ErrArg}},
		{example(), math.MinInt, nil, fault{0, api.ErrArg}},
		{example(), math.MaxInt, [][2]int{{0, 1}, {0, 2}}, fault{}},
		{doc(), 5, nil, fault{}},
		{doc(), -1, nil, fault{0, api.ErrArg}},
		{doc(secs(0, 1, "")), 5, nil, fault{}},
		{doc(secs(0, 1, ""), secs(1, 2, "")), 5, nil, fault{}},
		{doc(at(whole(0), r(1<<20-1, 1<<20), ""), at(r(1<<20-2, 1<<20-1), whole(1), "")), 5, [][2]int{{0, 1}}, fault{}},
		{three, 9, [][2]int{{0, 1}, {0, 2}, {1, 2}}, fault{}},
		{three, 2, [][2]int{{0, 1}, {0, 2}}, fault{}},
		// by the first and then by the second: pairs of one that ends early come ahead of later ones
		{doc(secs(0, 9, ""), secs(1, 2, ""), secs(3, 5, ""), secs(4, 6, ""), secs(8, 10, ""), secs(9, 11, "")), 99,
			[][2]int{{0, 1}, {0, 2}, {0, 3}, {0, 4}, {2, 3}, {4, 5}}, fault{}},
		// whatever their lanes and sides
		{doc(by(1, api.High, "", secs(0, 2, "")), by(2, api.Low, "", secs(1, 3, ""))), 99, [][2]int{{0, 1}}, fault{}},
		// a document that is not right is told first
		{doc(secs(1, 1, "")), -1, nil, fault{0, api.ErrBack}},
	} {
		if got, err := sweep.Overlaps(x.d, x.most); !x.f.is(err) || !slices.Equal(got, x.want) {
			t.Errorf("%d: Overlaps(%d): %v, %v; want %v, %v", n, x.most, got, err, x.want, x.f)
		}
	}
}

// TestNotRight: CheckDoc's error comes first, of all calls.
func TestNotRight(t *testing.T) {
	crowded := doc(slices.Repeat([]api.Cue{secs(0, 1, "")}, 4097)...)
	for _, d := range []api.Doc{
		doc(secs(1, 1, "")),
		doc(secs(0, 1, ""), secs(-1, 1, "")),
		doc(secs(0, 1, ""), secs(0, api.MaxTime+1, "")),
		doc(secs(0, 1, ""), at(r(1, 2), r(2, 2), "")),
		doc(at(whole(0), r(1, 1<<20+1), "")),
		doc(secs(2, 3, ""), secs(1, 5, "")),
		doc(secs(1, 3, ""), secs(1, 2, "")),
		doc(secs(0, 1, ""), by(8, 0, "", secs(0, 1, ""))),
		doc(secs(0, 1, ""), by(0, 2, "", secs(0, 1, ""))),
		doc(by(0, 0, "\n", secs(0, 1, ""))),
		doc(secs(0, 1, "a", b(0, 2))),
		doc(secs(0, 1, "abc", b(0, 2), b(1, 3))),
		doc(with(secs(0, 1, ""), long(4097))),
		doc(secs(0, 1, "a", heap(257)...)),
		crowded,
		doc(api.Cue{}),
	} {
		holdWrong(t, d)
	}
}
