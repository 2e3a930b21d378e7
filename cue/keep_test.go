package cue_test

import (
	"fmt"
	"math"
	"slices"
	"strings"
	"testing"

	"surtitle/api"
	"surtitle/cue"
)

// all is a format that can say everything but what its dialect can't, by that grid.
func all(dialect int, grid api.Ratio) api.Can {
	return api.Can{Dialect: dialect, Grid: grid, Lane: true, Side: true, Name: true, Blank: true}
}

// bare is one that can say times and texts without blank lines alone.
func bare(dialect int, grid api.Ratio) api.Can { return api.Can{Dialect: dialect, Grid: grid} }

func dialects() []int { return []int{api.DAngle, api.DVoice, api.DPipe, api.DBrace} }

func loss(cue, kind, n int) api.Loss { return api.Loss{Cue: cue, Kind: kind, N: n} }

// holdKeep complains if what is kept, and what is lost, is not what it should be.
func holdKeep(t *testing.T, d api.Doc, can api.Can, want api.Doc, lost ...api.Loss) {
	t.Helper()
	got, l, err := cue.Keep(d, can)
	if err != nil || !sameDoc(got, want) || !slices.Equal(l, lost) {
		t.Errorf("Keep(%+v, %+v): %+v, %v, %v; want %+v, %v", d, can, got, l, err, want, lost)
	}
}

// TestKeepTimes: P906's times, and the example 3.
func TestKeepTimes(t *testing.T) {
	const last = api.MaxTime
	late := func(ahead api.Ratio) api.Ratio { return r(last*ahead.D-ahead.N, ahead.D) }
	for n, x := range []struct {
		from, to, grid, start, end api.Ratio
	}{
		{whole(1), whole(2), whole(1), whole(1), whole(2)},
		{r(1, 100), r(1, 50), r(1, 25), whole(0), r(1, 25)},
		{r(1, 4), r(3, 4), r(1, 2), r(1, 2), whole(1)}, // halves up
		{r(1<<18-1, 1<<20), r(3<<18-1, 1<<20), r(1, 2), whole(0), r(1, 2)},
		{r(1, 3), r(2, 3), r(1, 1000), r(333, 1000), r(667, 1000)},
		{r(1, 3), r(2, 3), r(1, 3), r(1, 3), r(2, 3)},
		{r(1, 3), r(2, 3), r(2, 3), r(2, 3), r(4, 3)},
		{whole(0), r(1, 1<<20), whole(1), whole(0), whole(1)},
		{whole(0), r(1, 1<<20), r(1, 1<<20), whole(0), r(1, 1<<20)},
		{r(999999, 1000000), whole(1), r(1, 1<<20), r(1<<20-1, 1<<20), whole(1)},
		{r(1, 2), whole(1), whole(1), whole(1), whole(2)},
		{whole(5), whole(6), r(1001, 24000), r(1001, 200), r(3003, 500)},
		// the end of time
		{whole(0), whole(last), whole(1), whole(0), whole(last)},
		{whole(last - 1), whole(last), whole(1), whole(last - 1), whole(last)},
		{late(r(1, 3)), whole(last), whole(1), whole(last - 1), whole(last)},
		{late(r(1, 3)), late(r(1, 4)), whole(1), whole(last - 1), whole(last)},
		{late(r(3, 5)), late(r(1, 2)), whole(1), whole(last - 1), whole(last)},
		{late(r(3, 5)), late(r(4, 7)), whole(1), whole(last - 1), whole(last)},
		{late(r(8, 5)), late(r(3, 2)), whole(1), whole(last - 2), whole(last - 1)},
		// the last on the grid is 359999.5; the next one would be 360000.375
		{late(r(1, 10)), whole(last), r(7, 8), late(r(11, 8)), late(r(1, 2))},
		{late(r(1, 16)), whole(last), r(7, 8), late(r(11, 8)), late(r(1, 2))},
		{late(whole(1)), whole(last), r(7, 8), late(r(11, 8)), late(r(1, 2))},
		{late(r(5, 4)), whole(last), r(7, 8), late(r(11, 8)), late(r(1, 2))},
		{late(r(5, 4)), late(r(3, 4)), r(7, 8), late(r(11, 8)), late(r(1, 2))},
		{late(r(3, 2)), late(r(11, 8)), r(7, 8), late(r(11, 8)), late(r(1, 2))},
	} {
		d := doc(at(x.from, x.to, "x"))
		var lost []api.Loss
		if x.from != x.start || x.to != x.end {
			lost = append(lost, loss(0, api.LTime, 1))
		}
		for _, dialect := range dialects() {
			t.Run(fmt.Sprint(n, dialect), func(t *testing.T) {
				holdKeep(t, d, all(dialect, x.grid), doc(at(x.start, x.end, "x")), lost...)
			})
		}
	}
	holdKeep(t, doc(at(whole(0), r(1, 1000), "a"), at(whole(0), r(1, 500), "b")), all(api.DAngle, r(1, 100)),
		doc(at(whole(0), r(1, 100), "a"), at(whole(0), r(1, 100), "b")), loss(0, api.LTime, 1), loss(1, api.LTime, 1))
}

// TestKeepOrder: P906: what is kept is sorted, losses are told by the numbers that the cues had.
func TestKeepOrder(t *testing.T) {
	a, b, c := at(r(1, 100), whole(3), "a"), at(r(1, 50), whole(2), "b"), at(r(1, 40), whole(3), "<")
	holdKeep(t, doc(a, b, c), all(api.DAngle, whole(1)),
		doc(secs(0, 2, "b"), secs(0, 3, "a"), secs(0, 3, "\uff1c")),
		loss(0, api.LTime, 1), loss(1, api.LTime, 1), loss(2, api.LTime, 1), loss(2, api.LSign, 1))
	holdKeep(t, api.Doc{}, bare(api.DPipe, whole(1)), api.Doc{})
	// Enough of them that no small sort serves: all fall on two times, and stay as they stood.
	var l, early, late []api.Cue
	for n := range int64(400) {
		x := at(r(n+1, 1009), whole(2-n%2), fmt.Sprint(n))
		kept := but(x, func(x *api.Cue) { x.Start = whole(0) })
		l = append(l, x)
		if n%2 == 0 {
			late = append(late, kept)
		} else {
			early = append(early, kept)
		}
	}
	got, lost, err := cue.Keep(doc(l...), all(api.DVoice, whole(1)))
	if err != nil || len(lost) != 400 || !sameDoc(got, doc(append(early, late...)...)) {
		t.Errorf("%d losses, %v: %+v", len(lost), err, got)
	}
}

// TestKeepPlaces: P906's Lane, Side and Name, and the example 4.
func TestKeepPlaces(t *testing.T) {
	x := but(secs(1, 2, "a"), func(x *api.Cue) { x.Lane, x.Side, x.Name = 3, api.High, "Ann" })
	zero := secs(0, 1, "")
	for _, y := range []struct {
		can  api.Can
		want api.Cue
		lost []api.Loss
	}{
		{bare(api.DVoice, whole(1)), secs(1, 2, "a"), []api.Loss{loss(1, api.LLane, 1), loss(1, api.LSide, 1), loss(1, api.LName, 1)}},
		{all(api.DVoice, whole(1)), x, nil},
		{all(api.DBrace, whole(1)), x, nil},
		{all(api.DAngle, whole(1)), but(x, func(x *api.Cue) { x.Name = "" }), []api.Loss{loss(1, api.LName, 1)}},
		{all(api.DPipe, whole(1)), but(x, func(x *api.Cue) { x.Name = "" }), []api.Loss{loss(1, api.LName, 1)}},
		{api.Can{Dialect: api.DVoice, Grid: whole(1), Lane: true}, but(x, func(x *api.Cue) { x.Side, x.Name = api.Low, "" }), []api.Loss{loss(1, api.LSide, 1), loss(1, api.LName, 1)}},
		{api.Can{Dialect: api.DVoice, Grid: whole(1), Side: true}, but(x, func(x *api.Cue) { x.Lane, x.Name = 0, "" }), []api.Loss{loss(1, api.LLane, 1), loss(1, api.LName, 1)}},
		{api.Can{Dialect: api.DVoice, Grid: whole(1), Name: true}, but(x, func(x *api.Cue) { x.Lane, x.Side = 0, api.Low }), []api.Loss{loss(1, api.LLane, 1), loss(1, api.LSide, 1)}},
	} {
		holdKeep(t, doc(zero, x), y.can, doc(zero, y.want), y.lost...)
	}
	comma := but(secs(1, 2, ""), func(x *api.Cue) { x.Name = "a,b" })
	holdKeep(t, doc(comma), all(api.DVoice, whole(1)), doc(comma))
	holdKeep(t, doc(comma), all(api.DBrace, whole(1)), doc(secs(1, 2, "")), loss(0, api.LName, 1))
	for _, dialect := range dialects() {
		holdKeep(t, doc(zero, secs(1, 2, "a")), bare(dialect, whole(1)), doc(zero, secs(1, 2, "a")))
	}
}

// TestKeepText: P906's Text: what mark.Keep of the normal form tells, with blank lines or without.
func TestKeepText(t *testing.T) {
	with := func(s string, l ...api.Span) api.Doc { return doc(at(whole(0), whole(1), s, l...)) }
	for _, x := range []struct {
		d    api.Doc
		can  api.Can
		want api.Doc
		lost []api.Loss
	}{
		{with("a < b\n\nc"), bare(api.DAngle, whole(1)), with("a \uff1c b\nc"), []api.Loss{loss(0, api.LSign, 1), loss(0, api.LLine, 1)}},
		{with("a < b\n\nc"), all(api.DAngle, whole(1)), with("a \uff1c b\n\nc"), []api.Loss{loss(0, api.LSign, 1)}},
		{with("\n\n\na\x00\x01"), bare(api.DVoice, whole(1)), with("a  "), []api.Loss{loss(0, api.LSign, 2), loss(0, api.LLine, 3)}},
		{with("\n"), bare(api.DBrace, whole(1)), with(""), []api.Loss{loss(0, api.LLine, 1)}},
		{with("abc", k(0, 2)), all(api.DVoice, whole(1)), with("abc"), []api.Loss{loss(0, api.LStyle, 2)}},
		{with("abc", k(0, 2)), all(api.DAngle, whole(1)), with("abc", k(0, 2)), nil},
		{with("abc\n{}|", b(0, 4), i(1, 2)), all(api.DPipe, whole(1)), with("abc\n\uff5b\uff5d\uff5c", b(0, 4)), []api.Loss{loss(0, api.LSign, 3), loss(0, api.LStyle, 1)}},
		// a text that is not normal is alike to what is kept: nothing is lost
		{with("abcd", i(0, 4), b(1, 3), b(1, 3)), all(api.DAngle, whole(1)), with("abcd", i(0, 1), b(1, 3), i(1, 3), i(3, 4)), nil},
		{with("abcd", c(1, 0, 2), c(1, 2, 4)), all(api.DPipe, whole(1)), with("abcd", c(1, 0, 4)), nil},
		{with("\xff\xc3", b(0, 1)), bare(api.DBrace, whole(1)), with("\xff\xc3", b(0, 1)), nil},
	} {
		holdKeep(t, x.d, x.can, x.want, x.lost...)
	}
	every := but(at(r(1, 3), r(3, 2), "\n\\x", k(2, 3)), func(x *api.Cue) { x.Lane, x.Side, x.Name = 1, api.High, "n" })
	holdKeep(t, doc(secs(0, 1, ""), every), bare(api.DVoice, r(1, 2)), doc(secs(0, 1, ""), at(r(1, 2), r(3, 2), "\\x")),
		loss(1, api.LTime, 1), loss(1, api.LLane, 1), loss(1, api.LSide, 1), loss(1, api.LName, 1), loss(1, api.LLine, 1), loss(1, api.LStyle, 1))
	all7 := but(every, func(x *api.Cue) { x.Text = text("\n\x07x", k(2, 3)) })
	_, lost, err := cue.Keep(doc(all7), bare(api.DVoice, r(1, 2)))
	if err != nil || len(lost) != 7 {
		t.Fatal(lost, err)
	}
	for n, x := range lost {
		if x != loss(0, n+1, 1) {
			t.Errorf("%+v", lost)
		}
	}
}

// TestKeepRefused: P906's errors, in their order.
func TestKeepRefused(t *testing.T) {
	grown := strings.Repeat("<", 1366)      // 3 bytes for each: 4098
	fits := strings.Repeat("<", 1365) + "x" // 4096
	manySpans := but(secs(0, 1, ""), func(x *api.Cue) { x.Text = dense() })
	for n, x := range []struct {
		d   api.Doc
		can api.Can
		f   fault
	}{
		{doc(secs(1, 1, "")), api.Can{}, fault{0, api.ErrBack}},
		{doc(secs(1, 2, ""), secs(0, 1, "")), api.Can{}, fault{1, api.ErrOrder}},
		{many(4097, full()), api.Can{}, fault{0, api.ErrMany}},
		{api.Doc{}, api.Can{}, fault{0, api.ErrKind}},
		{doc(full(), full()), api.Can{Grid: whole(1)}, fault{0, api.ErrKind}},
		{api.Doc{}, all(5, whole(1)), fault{0, api.ErrKind}},
		{api.Doc{}, all(-1, r(3, 2)), fault{0, api.ErrKind}},
		{api.Doc{}, all(math.MaxInt, whole(1)), fault{0, api.ErrKind}},
		{api.Doc{}, all(1, api.Ratio{}), fault{0, api.ErrArg}},
		{api.Doc{}, all(1, whole(0)), fault{0, api.ErrArg}},
		{api.Doc{}, all(2, r(-1, 2)), fault{0, api.ErrArg}},
		{api.Doc{}, all(3, r(2, 4)), fault{0, api.ErrArg}},
		{api.Doc{}, all(4, r(2, 2)), fault{0, api.ErrArg}},
		{api.Doc{}, all(1, r(-1, -1)), fault{0, api.ErrArg}},
		{api.Doc{}, all(1, r(3, 2)), fault{0, api.ErrArg}},
		{api.Doc{}, all(1, whole(2)), fault{0, api.ErrArg}},
		{api.Doc{}, all(1, r(1<<20+1, 1<<20)), fault{0, api.ErrArg}},
		{api.Doc{}, all(1, r(1, 1<<20+1)), fault{0, api.ErrArg}},
		{doc(full()), all(1, r(1<<20, 1<<20+1)), fault{0, api.ErrArg}},
		{doc(full()), all(1, r(math.MinInt64, math.MinInt64)), fault{0, api.ErrArg}},
		{doc(full()), all(1, whole(1)), fault{}},
		{doc(full()), all(1, r(1, 1<<20)), fault{}},
		{doc(full()), all(4, r(1<<20-1, 1<<20)), fault{}},
		{doc(secs(0, 1, fits)), all(api.DAngle, whole(1)), fault{}},
		{doc(secs(0, 1, fits+"x")), all(api.DAngle, whole(1)), fault{0, api.ErrLong}},
		{doc(secs(0, 1, grown)), all(api.DAngle, whole(1)), fault{0, api.ErrLong}},
		{doc(secs(0, 1, grown)), all(api.DVoice, whole(1)), fault{}},
		{doc(secs(0, 1, ""), secs(0, 1, grown), secs(0, 1, grown)), all(api.DAngle, whole(1)), fault{1, api.ErrLong}},
		{doc(manySpans), all(api.DAngle, whole(1)), fault{0, api.ErrMany}},
		{doc(manySpans), all(api.DPipe, whole(1)), fault{0, api.ErrMany}},
		{doc(secs(0, 1, ""), secs(0, 1, ""), manySpans, secs(0, 1, grown)), all(api.DAngle, whole(1)), fault{2, api.ErrMany}},
		{doc(secs(0, 1, "x"), secs(0, 1, grown), manySpans), all(api.DAngle, whole(1)), fault{1, api.ErrLong}},
	} {
		got, lost, err := cue.Keep(x.d, x.can)
		if !x.f.is(err) || err != nil && len(got.Cues)+len(lost) > 0 || err == nil && len(got.Cues) != len(x.d.Cues) {
			t.Errorf("%d: %d cues, %v, %v; want %+v", n, len(got.Cues), lost, err, x.f)
		}
	}
}
