package cue_test

import (
	"fmt"
	"slices"
	"testing"

	"surtitle/api"
	"surtitle/cue"
	"surtitle/retime"
)

// wrongDocs are documents that are not right, and how CheckDoc says so.
func wrongDocs() []struct {
	d api.Doc
	f fault
} {
	return []struct {
		d api.Doc
		f fault
	}{
		{many(4097, full()), fault{0, api.ErrMany}},
		{doc(secs(0, 1, ""), secs(2, 2, "")), fault{1, api.ErrBack}},
		{doc(secs(1, 2, ""), secs(0, 1, "")), fault{1, api.ErrOrder}},
		{doc(but(full(), func(x *api.Cue) { x.Name = "\n" })), fault{0, api.ErrName}},
	}
}

// TestShift: P904's Shift, and the example 2.
func TestShift(t *testing.T) {
	one := doc(secs(1, 2, "a"))
	wide := r(1, 1<<20+1)
	for n, x := range []struct {
		d    api.Doc
		by   api.Ratio
		want api.Doc
		f    fault
	}{
		{one, whole(0), one, fault{}},
		{one, r(1, 3), doc(at(r(4, 3), r(7, 3), "a")), fault{}},
		{one, whole(-1), doc(secs(0, 1, "a")), fault{}},
		{one, whole(359998), doc(secs(359999, 360000, "a")), fault{}},
		{api.Doc{}, whole(5), api.Doc{}, fault{}},
		{one, whole(-2), api.Doc{}, fault{0, api.ErrBack}},
		{one, r(-1<<20-1, 1<<20), api.Doc{}, fault{0, api.ErrBack}},
		{one, whole(-3), api.Doc{}, fault{0, api.ErrBack}},
		{one, whole(360000), api.Doc{}, fault{0, api.ErrTime}},
		{one, whole(359999), api.Doc{}, fault{0, api.ErrTime}},
		{one, wide, api.Doc{}, fault{0, api.ErrWide}},
		{one, r(-2<<20-3, 1<<20+1), api.Doc{}, fault{0, api.ErrBack}}, // below 0, ahead of too wide
		{one, r(360000<<20+360001, 1<<20+1), api.Doc{}, fault{0, api.ErrWide}},
		{one, r(2, 2), api.Doc{}, fault{0, api.ErrWide}},
		{one, api.Ratio{}, api.Doc{}, fault{0, api.ErrWide}},
		{api.Doc{}, r(1, -1), api.Doc{}, fault{0, api.ErrWide}},
		{doc(secs(0, 1, ""), secs(1, 2, "")), r(2, 4), api.Doc{}, fault{0, api.ErrWide}},
		// Add's own error, of bottoms that no ratio has.
		{doc(at(r(1, 1<<20-1), whole(1), "")), r(1, 1<<31), api.Doc{}, fault{0, api.ErrWide}},
		{doc(at(r(1, 1<<20-1), whole(1), "")), r(-1<<31-1, 1<<31), api.Doc{}, fault{0, api.ErrWide}},
		{doc(secs(1, 2, ""), secs(5, 360000, ""), secs(7, 8, "")), r(1, 2), api.Doc{}, fault{1, api.ErrTime}},
		{doc(secs(1, 2, ""), at(whole(5), r(360000<<20-1, 1<<20), "")), r(1, 3), api.Doc{}, fault{1, api.ErrWide}},
		// A Start's error stands ahead of the End's, an earlier cue's ahead of all.
		{doc(at(r(1, 1<<20), whole(359999), "")), r(9, 7), api.Doc{}, fault{0, api.ErrWide}},
		{doc(secs(0, 9, ""), secs(1, 360000, "")), whole(1), api.Doc{}, fault{1, api.ErrTime}},
	} {
		got, err := cue.Shift(x.d, x.by)
		if !x.f.is(err) || !sameDoc(got, x.want) {
			t.Errorf("%d: Shift(%+v, %v): %+v, %v; want %+v, %+v", n, x.d, x.by, got, err, x.want, x.f)
		}
	}
	for _, x := range wrongDocs() {
		for _, by := range []api.Ratio{whole(0), r(2, 2), whole(-9)} {
			got, err := cue.Shift(x.d, by)
			holdDoc(t, "Shift", got, err, api.Doc{}, x.f)
		}
	}
	if _, err := cue.Shift(one, whole(-2)); err.Error() != "cue 0: back" {
		t.Error(err)
	}
	if _, err := cue.Shift(one, whole(360000)); err.Error() != "cue 0: time" {
		t.Error(err)
	}
}

// TestMovesKeepTheRest: P904: a move changes times alone, Norm the spans alone.
func TestMovesKeepTheRest(t *testing.T) {
	odd := but(full(), func(x *api.Cue) { x.Text.Spans = []api.Span{c(1, 1, 3), b(0, 4), b(0, 4)} })
	later := but(odd, func(x *api.Cue) { x.Start, x.End = r(4, 3), r(9, 2) })
	got, err := cue.Shift(doc(odd, odd), whole(1))
	holdDoc(t, "Shift", got, err, doc(later, later), fault{})
	m, _ := retime.Shift(whole(1))
	got, err = cue.Retime(doc(odd, odd), m)
	holdDoc(t, "Retime", got, err, doc(later, later), fault{})
	tidy := but(odd, func(x *api.Cue) { x.Text.Spans = []api.Span{b(0, 4), c(1, 1, 3)} })
	got, err = cue.Norm(doc(odd, odd))
	holdDoc(t, "Norm", got, err, doc(tidy, tidy), fault{})
}

// made is a map through knots.
func made(t *testing.T, l ...api.Knot) *retime.Map {
	t.Helper()
	m, e := retime.New(l)
	if e != api.OK {
		t.Fatal(l, e)
	}
	return m
}

func knot(in, out api.Ratio) api.Knot { return api.Knot{In: in, Out: out} }

// TestRetime: P904's Retime.
func TestRetime(t *testing.T) {
	same := made(t, knot(whole(0), whole(0)))
	twice := made(t, knot(whole(0), whole(0)), knot(whole(1), whole(2)))
	bent := made(t, knot(whole(0), whole(0)), knot(whole(10), whole(10)), knot(whole(20), whole(40)))
	early := made(t, knot(whole(0), whole(-5)))
	fine := made(t, knot(whole(0), whole(0)), knot(whole(1<<20), whole(1<<20+1)))
	thin := made(t, knot(whole(0), whole(0)), knot(whole(1<<31), whole(1)))
	for n, x := range []struct {
		d    api.Doc
		m    *retime.Map
		want api.Doc
		f    fault
	}{
		{doc(secs(1, 2, "a")), same, doc(secs(1, 2, "a")), fault{}},
		{doc(secs(1, 2, "a"), secs(3, 4, "b")), twice, doc(secs(2, 4, "a"), secs(6, 8, "b")), fault{}},
		{doc(secs(5, 12, "a"), secs(12, 15, "b")), bent, doc(secs(5, 16, "a"), secs(16, 25, "b")), fault{}},
		{api.Doc{}, early, api.Doc{}, fault{}},
		{doc(secs(5, 6, "")), early, doc(secs(0, 1, "")), fault{}},
		{doc(secs(4, 6, "")), early, api.Doc{}, fault{0, api.ErrBack}},
		{doc(secs(0, 180000, "")), twice, doc(secs(0, 360000, "")), fault{}},
		{doc(secs(0, 180000, ""), secs(0, 180001, "")), twice, api.Doc{}, fault{1, api.ErrTime}},
		{doc(secs(180001, 180002, "")), twice, api.Doc{}, fault{0, api.ErrTime}},
		{doc(at(whole(0), r(1, 2), "")), fine, api.Doc{}, fault{0, api.ErrWide}},
		{doc(secs(0, 1, "")), fine, doc(at(whole(0), r(1<<20+1, 1<<20), "")), fault{}},
		{doc(secs(0, 2, ""), secs(1, 3, "")), thin, api.Doc{}, fault{0, api.ErrWide}},
		{doc(at(whole(0), r(1, 3), "")), thin, api.Doc{}, fault{0, api.ErrWide}}, // Apply's error
	} {
		got, err := cue.Retime(x.d, x.m)
		if !x.f.is(err) || !sameDoc(got, x.want) {
			t.Errorf("%d: Retime(%+v, %v): %+v, %v; want %+v, %+v", n, x.d, x.m.Knots(), got, err, x.want, x.f)
		}
	}
	for _, x := range wrongDocs() {
		got, err := cue.Retime(x.d, early)
		holdDoc(t, "Retime", got, err, api.Doc{}, x.f)
	}
}

// TestNorm: P904's Norm; a text whose normal form would have too many spans is ErrMany of its cue.
func TestNorm(t *testing.T) {
	long := but(secs(1, 2, ""), func(x *api.Cue) { x.Text = dense() })
	crossed := at(whole(1), whole(2), "abcd", i(0, 4), b(1, 3))
	for _, x := range []struct {
		d, want api.Doc
		f       fault
	}{
		{api.Doc{}, api.Doc{}, fault{}},
		{doc(secs(0, 1, "x")), doc(secs(0, 1, "x")), fault{}},
		{doc(crossed), doc(at(whole(1), whole(2), "abcd", i(0, 1), b(1, 3), i(1, 3), i(3, 4))), fault{}},
		{doc(long), api.Doc{}, fault{0, api.ErrMany}},
		{doc(secs(0, 1, ""), crossed, long, long), api.Doc{}, fault{2, api.ErrMany}},
		{doc(long, secs(0, 1, "")), api.Doc{}, fault{1, api.ErrOrder}},
	} {
		got, err := cue.Norm(x.d)
		holdDoc(t, "Norm", got, err, x.want, x.f)
	}
	for _, x := range wrongDocs() {
		got, err := cue.Norm(x.d)
		holdDoc(t, "Norm", got, err, api.Doc{}, x.f)
	}
}

// told gathers what a sequence goes over.
type told struct {
	numbers []int
	cues    []api.Cue
}

func gather(seq func(func(int, api.Cue) bool)) told {
	var l told
	for n, x := range seq {
		l.numbers = append(l.numbers, n)
		l.cues = append(l.cues, x)
	}
	return l
}

// holdTold complains if a sequence does not go over these cues of a document.
func holdTold(t *testing.T, what string, d api.Doc, got told, want []int) {
	t.Helper()
	if !slices.Equal(got.numbers, want) {
		t.Errorf("%s: %v; want %v", what, got.numbers, want)
		return
	}
	for n, x := range got.cues {
		if !sameCue(x, d.Cues[want[n]]) {
			t.Errorf("%s: %+v; want %+v", what, x, d.Cues[want[n]])
		}
	}
}

// TestActive: P905's Active: from a Start on, up to ahead of an End.
func TestActive(t *testing.T) {
	d := doc(secs(0, 9, "a"), secs(1, 3, "b"), full(), secs(2, 3, "d"), at(whole(2), r(3<<20+1, 1<<20), "e"), secs(359999, 360000, "f"))
	d.Cues[2].Start = whole(1)
	for _, x := range []struct {
		t    api.Ratio
		want []int
	}{
		{whole(0), []int{0}},
		{r(-1, 1<<31), nil},
		{whole(-1 << 62), nil},
		{r(1, 1<<31), []int{0}},
		{r(1<<31-1, 1<<31), []int{0}},
		{whole(1), []int{0, 1, 2}},
		{whole(2), []int{0, 1, 2, 3, 4}},
		{whole(3), []int{0, 2, 4}},
		{r(3<<20+1, 1<<20), []int{0, 2}},
		{r(7, 2), []int{0}},
		{whole(9), nil},
		{r(9<<20-1, 1<<20), []int{0}},
		{whole(359999), []int{5}},
		{whole(360000), nil},
		{whole(1 << 62), nil},
		{r(2, 2), nil},
		{r(2, 1<<32), nil},
		{api.Ratio{}, nil},
		{r(-1, -1), nil},
	} {
		holdTold(t, fmt.Sprint("Active ", x.t), d, gather(cue.Active(d, x.t)), x.want)
	}
	for _, x := range wrongDocs() {
		holdTold(t, "Active", x.d, gather(cue.Active(x.d, whole(1))), nil)
	}
	holdTold(t, "Active", d, gather(cue.Active(api.Doc{}, whole(1))), nil)
}

// TestWithin: P905's Within: active at some time between the two, the second one not among them.
func TestWithin(t *testing.T) {
	d := doc(secs(0, 1, "a"), secs(1, 3, "b"), secs(2, 5, "c"), secs(4, 5, "d"), secs(7, 9, "e"))
	for _, x := range []struct {
		from, to api.Ratio
		want     []int
	}{
		{whole(0), whole(360000), []int{0, 1, 2, 3, 4}},
		{whole(-1 << 62), whole(1 << 62), []int{0, 1, 2, 3, 4}},
		{whole(0), whole(1), []int{0}},
		{whole(1), whole(2), []int{1}},
		{whole(1), r(4, 2), nil}, // not in lowest terms
		{whole(1), r(1<<31+1, 1<<30), []int{1, 2}},
		{r(1<<31-1, 1<<31), whole(1), []int{0}},
		{r(5, 2), r(8, 3), []int{1, 2}},
		{whole(3), whole(4), []int{2}},
		{whole(3), whole(5), []int{2, 3}},
		{whole(5), whole(7), nil},
		{r(11, 2), r(13, 2), nil},
		{whole(5), r(7<<20+1, 1<<20), []int{4}},
		{r(9<<31-1, 1<<31), whole(10), []int{4}},
		{whole(9), whole(10), nil},
		{whole(-9), whole(0), nil},
		{whole(-9), r(1, 1<<31), []int{0}},
		{whole(2), whole(2), nil},
		{r(5, 2), r(5, 2), nil},
		{whole(3), whole(2), nil},
		{whole(8), whole(0), nil},
		{r(2, 2), whole(5), nil},
		{whole(0), api.Ratio{}, nil},
		{api.Ratio{}, whole(5), nil},
		{whole(0), r(-5, -1), nil},
	} {
		holdTold(t, fmt.Sprint("Within ", x.from, x.to), d, gather(cue.Within(d, x.from, x.to)), x.want)
	}
	for _, x := range wrongDocs() {
		holdTold(t, "Within", x.d, gather(cue.Within(x.d, whole(0), whole(9))), nil)
	}
}
