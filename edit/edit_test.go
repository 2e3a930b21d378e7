package edit_test

import (
	"errors"
	"math"
	"slices"
	"strings"
	"testing"

	"surtitle/api"
	"surtitle/cue"
	"surtitle/edit"
	"surtitle/style"
)

func r(n, d int64) api.Ratio { return api.Ratio{N: n, D: d} }

func whole(n int64) api.Ratio { return r(n, 1) }

// at is a cue of these times.
func at(from, to api.Ratio, s string) api.Cue {
	return api.Cue{Start: from, End: to, Text: api.Text{S: s}}
}

// secs is a cue of whole seconds.
func secs(from, to int64, s string, spans ...api.Span) api.Cue {
	x := at(whole(from), whole(to), s)
	x.Text.Spans = spans
	return x
}

// but is a cue of which something is another thing.
func but(x api.Cue, turn func(*api.Cue)) api.Cue {
	turn(&x)
	return x
}

func doc(l ...api.Cue) api.Doc { return api.Doc{Cues: l} }

// times is a document of the same cue, so many times.
func times(n int, x api.Cue) api.Doc { return doc(slices.Repeat([]api.Cue{x}, n)...) }

func b(from, to int) api.Span { return api.Span{From: from, To: to, Kind: api.KBold} }

func i(from, to int) api.Span { return api.Span{From: from, To: to, Kind: api.KItalic} }

func c(value, from, to int) api.Span {
	return api.Span{From: from, To: to, Kind: api.KColour, Value: value}
}

// heap is so many spans over the first sign.
func heap(n int) []api.Span { return slices.Repeat([]api.Span{b(0, 1)}, n) }

// comb is so many spans over every other sign.
func comb(n int) []api.Span {
	var l []api.Span
	for k := range n {
		l = append(l, b(2*k, 2*k+1))
	}
	return l
}

func sameCue(x, y api.Cue) bool {
	return x.Start == y.Start && x.End == y.End && x.Lane == y.Lane && x.Side == y.Side && x.Name == y.Name &&
		x.Text.S == y.Text.S && slices.Equal(x.Text.Spans, y.Text.Spans)
}

func sameDoc(x, y api.Doc) bool { return slices.EqualFunc(x.Cues, y.Cues, sameCue) }

// begin is a log of a right document.
func begin(t *testing.T, d api.Doc) *edit.Log {
	t.Helper()
	l, err := edit.New(d)
	if err != nil || l == nil {
		t.Fatalf("New(%s): %v", say(d), err)
	}
	return l
}

// hold complains if an edit does something else in a document; of an error only that counts.
func hold(t *testing.T, d api.Doc, e api.Edit, want api.Doc, f api.Errno) {
	t.Helper()
	l := begin(t, d)
	done := 1
	if f != api.OK {
		want, done = d, 0
	}
	if g := l.Do(e); g != f || !sameDoc(l.Doc(), want) || l.Done() != done || l.Undone() != 0 {
		t.Errorf("Do(%s) in %s: %v, %s; want %v, %s", say(e), say(d), g, say(l.Doc()), f, say(want))
	}
	if back := l.Undo(); back == api.OK != (f == api.OK) || !sameDoc(l.Doc(), d) {
		t.Errorf("Do(%s) in %s, undone: %v, %s", say(e), say(d), back, say(l.Doc()))
	}
	if again := l.Redo(); again == api.OK != (f == api.OK) || !sameDoc(l.Doc(), want) {
		t.Errorf("Do(%s) in %s, done again: %v, %s", say(e), say(d), again, say(l.Doc()))
	}
	holdInverse(t, d, e, f)
}

// TestNew: P2001, and P2005's first error.
func TestNew(t *testing.T) {
	for _, d := range []api.Doc{
		doc(),
		doc(secs(0, 1, "")),
		doc(secs(0, 1, ""), secs(0, 1, "")),
		doc(secs(0, 2, "abc", c(1, 1, 2), b(0, 3)), secs(1, api.MaxTime, "")),
		times(4096, secs(0, 1, "")),
	} {
		l := begin(t, d)
		if !sameDoc(l.Doc(), d) || l.Done() != 0 || l.Undone() != 0 || l.Undo() != api.ErrNone || l.Redo() != api.ErrNone {
			t.Errorf("New(%s): %s", say(d), say(l.Doc()))
		}
	}
	for _, x := range []struct {
		d    api.Doc
		want cue.Wrong
	}{
		{doc(secs(1, 1, "")), cue.Wrong{Cue: 0, Err: api.ErrBack}},
		{doc(secs(0, 1, ""), secs(-1, 1, "")), cue.Wrong{Cue: 1, Err: api.ErrTime}},
		{doc(secs(0, 1, ""), at(whole(0), r(2, 2), "")), cue.Wrong{Cue: 1, Err: api.ErrWide}},
		{doc(secs(0, 1, ""), secs(2, 3, ""), secs(1, 3, "")), cue.Wrong{Cue: 2, Err: api.ErrOrder}},
		{doc(secs(0, 1, "a", b(0, 2))), cue.Wrong{Cue: 0, Err: api.ErrSpan}},
		{doc(but(secs(0, 1, ""), func(x *api.Cue) { x.Lane = 8 })), cue.Wrong{Cue: 0, Err: api.ErrLane}},
		{doc(but(secs(0, 1, ""), func(x *api.Cue) { x.Name = "\n" })), cue.Wrong{Cue: 0, Err: api.ErrName}},
		{times(4097, secs(0, 1, "")), cue.Wrong{Cue: 0, Err: api.ErrMany}},
	} {
		l, err := edit.New(x.d)
		var w *cue.Wrong
		if l != nil || !errors.As(err, &w) || *w != x.want {
			t.Errorf("New: %v, %v; want %v", l, err, x.want)
		}
		for _, e := range []api.Edit{{}, {Op: api.ETake}, {Op: api.ETake, Cue: -1}, {Op: api.ELay, New: secs(0, 1, "")}} {
			if l, f := edit.Inverse(x.d, e); len(l) > 0 || f != x.want.Err {
				t.Errorf("Inverse: %v, %v; want %v", l, f, x.want.Err)
			}
		}
	}
}

// two is the document of the example 3.
func two() api.Doc { return doc(secs(0, 1, "ab"), secs(0, 5, "cd")) }

// TestOps: P2002 of an Op that is none, ahead of all else.
func TestOps(t *testing.T) {
	for _, op := range []int{0, -1, 11, 12, math.MaxInt, math.MinInt} {
		hold(t, two(), api.Edit{Op: op}, doc(), api.ErrKind)
		hold(t, two(), api.Edit{Op: op, Cue: -1, Unit: 9, Start: r(2, 4)}, doc(), api.ErrKind)
		hold(t, doc(), api.Edit{Op: op, Cue: 7}, doc(), api.ErrKind)
	}
	for op := 1; op <= 10; op++ {
		for _, n := range []int{-1, 3, 1 << 40, math.MaxInt, math.MinInt} {
			hold(t, two(), api.Edit{Op: op, Cue: n, To: 2, Unit: 9, Start: r(2, 4), Lane: 9, Name: "\n"}, doc(), api.ErrArg)
		}
		if op != api.ELay && op != api.EShift {
			hold(t, two(), api.Edit{Op: op, Cue: 2, Unit: 9, Start: r(2, 4), Lane: 9, Name: "\n"}, doc(), api.ErrArg)
			hold(t, doc(), api.Edit{Op: op, Unit: 9, Start: r(2, 4), Lane: 9, Name: "\n"}, doc(), api.ErrArg)
		}
	}
}

// TestLay: P2002's ELay.
func TestLay(t *testing.T) {
	x := but(secs(1, 3, "abc", i(1, 2), b(0, 3)), func(x *api.Cue) { x.Lane, x.Side, x.Name = 7, api.High, "Ann" })
	d := doc(secs(0, 9, "p"), secs(1, 3, "q"), secs(1, 4, "r"))
	lay := func(n int, x api.Cue) api.Edit { return api.Edit{Op: api.ELay, Cue: n, New: x} }
	hold(t, doc(), lay(0, x), doc(x), api.OK)
	hold(t, doc(), lay(1, x), doc(), api.ErrArg)
	hold(t, d, lay(0, x), doc(), api.ErrOrder)
	hold(t, d, lay(1, x), doc(d.Cues[0], x, d.Cues[1], d.Cues[2]), api.OK)
	hold(t, d, lay(2, x), doc(d.Cues[0], d.Cues[1], x, d.Cues[2]), api.OK)
	hold(t, d, lay(3, x), doc(), api.ErrOrder)
	hold(t, d, lay(4, x), doc(), api.ErrArg)
	hold(t, d, lay(-1, x), doc(), api.ErrArg)
	hold(t, d, lay(0, secs(0, 9, "")), doc(secs(0, 9, ""), d.Cues[0], d.Cues[1], d.Cues[2]), api.OK)
	hold(t, d, lay(0, secs(0, 10, "")), doc(), api.ErrOrder)
	hold(t, d, lay(3, secs(1, 4, "")), doc(d.Cues[0], d.Cues[1], d.Cues[2], secs(1, 4, "")), api.OK)
	// The errors of New, in their order, ahead of the number of cues and the order.
	wrong := but(secs(0, 1, strings.Repeat("x", 4097)), func(x *api.Cue) { x.Start, x.End, x.Lane, x.Name = r(2, 4), whole(-1), 8, "\n" })
	full := times(4096, secs(5, 6, ""))
	for _, k := range []struct {
		f    api.Errno
		mend func(*api.Cue)
	}{
		{api.ErrWide, func(x *api.Cue) { x.Start = whole(360001) }},
		{api.ErrTime, func(x *api.Cue) { x.Start = whole(9) }},
		{api.ErrTime, func(x *api.Cue) { x.End = whole(9) }},
		{api.ErrBack, func(x *api.Cue) { x.End = whole(10) }},
		{api.ErrLane, func(x *api.Cue) { x.Lane, x.Side = 0, -1 }},
		{api.ErrLane, func(x *api.Cue) { x.Side = 1 }},
		{api.ErrName, func(x *api.Cue) { x.Name = "" }},
		{api.ErrLong, func(x *api.Cue) { x.Text = api.Text{S: "a", Spans: append(heap(256), b(0, 2))} }},
		{api.ErrMany, func(x *api.Cue) { x.Text.Spans = x.Text.Spans[1:] }},
		{api.ErrSpan, func(x *api.Cue) { x.Text.Spans = nil }},
	} {
		hold(t, two(), lay(0, wrong), doc(), k.f)
		hold(t, two(), lay(3, wrong), doc(), api.ErrArg)
		if f := begin(t, full).Do(lay(0, wrong)); f != k.f {
			t.Errorf("%+v: %v; want %v", wrong, f, k.f)
		}
		k.mend(&wrong)
	}
	hold(t, two(), lay(0, wrong), doc(), api.ErrOrder)
	// Too many, ahead of the order; both sides of the bound.
	l := begin(t, full)
	for n, f := range map[int]api.Errno{0: api.ErrMany, 4096: api.ErrMany, 4097: api.ErrArg} {
		if g := l.Do(lay(n, wrong)); g != f {
			t.Errorf("%d: %v; want %v", n, g, f)
		}
	}
	if l.Do(api.Edit{Op: api.ETake}) != api.OK || l.Do(lay(0, wrong)) != api.ErrOrder || l.Do(lay(4095, wrong)) != api.OK || l.Do(lay(4096, wrong)) != api.ErrMany || len(l.Doc().Cues) != 4096 {
		t.Error(len(l.Doc().Cues))
	}
}

// TestTake: P2002's ETake.
func TestTake(t *testing.T) {
	x, y, z := secs(0, 1, "x", b(0, 1)), secs(0, 1, "y"), secs(0, 2, "z", i(0, 1), b(0, 1))
	d := doc(x, y, z)
	take := func(n int) api.Edit { return api.Edit{Op: api.ETake, Cue: n} }
	hold(t, d, take(0), doc(y, z), api.OK)
	hold(t, d, take(1), doc(x, z), api.OK)
	hold(t, d, take(2), doc(x, y), api.OK)
	hold(t, d, take(3), doc(), api.ErrArg)
	hold(t, doc(x), take(0), doc(), api.OK)
	hold(t, doc(), take(0), doc(), api.ErrArg)
}

// TestTimes: P2002's ETimes.
func TestTimes(t *testing.T) {
	rich := func(from, to api.Ratio) api.Cue {
		return but(at(from, to, "ab"), func(x *api.Cue) {
			x.Lane, x.Side, x.Name, x.Text.Spans = 3, api.High, "Ann", []api.Span{i(0, 1), b(0, 2)}
		})
	}
	one, five := secs(1, 9, ""), secs(5, 6, "")
	d := doc(one, rich(whole(2), whole(3)), five)
	for _, x := range []struct {
		from, to api.Ratio
		f        api.Errno
	}{
		{r(3, 2), r(7, 2), api.OK},
		{whole(2), whole(3), api.OK},
		{whole(1), whole(9), api.OK},
		{whole(1), whole(8), api.ErrOrder},
		{whole(0), whole(99), api.ErrOrder},
		{r(999999, 1000000), whole(99), api.ErrOrder},
		{whole(5), whole(6), api.OK},
		{whole(5), whole(7), api.ErrOrder},
		{whole(6), whole(7), api.ErrOrder},
		{r(4, 1), whole(360000), api.OK},
		{r(2, 1), r(2, 1), api.ErrBack},
		{whole(9), whole(8), api.ErrBack}, // ahead of the order
		{whole(0), whole(0), api.ErrBack},
		{r(1, 1<<20+1), whole(-1), api.ErrWide},
		{r(4, 2), whole(-1), api.ErrWide},
		{r(-1, 1<<20+1), whole(1), api.ErrWide},
		{whole(-1), r(4, 2), api.ErrTime},
		{whole(360001), whole(9), api.ErrTime},
		{whole(9), r(4, 2), api.ErrWide},
		{whole(9), whole(-1), api.ErrTime},
		{whole(2), whole(360001), api.ErrTime},
		{api.Ratio{}, api.Ratio{}, api.ErrWide},
	} {
		hold(t, d, api.Edit{Op: api.ETimes, Cue: 1, Start: x.from, End: x.to}, doc(one, rich(x.from, x.to), five), x.f)
	}
	hold(t, two(), api.Edit{Op: api.ETimes, Cue: 0, Start: whole(0), End: whole(6)}, doc(), api.ErrOrder)
	hold(t, two(), api.Edit{Op: api.ETimes, Cue: 0, Start: whole(0), End: whole(5)}, doc(secs(0, 5, "ab"), secs(0, 5, "cd")), api.OK)
}

// part is an edit of a part of the first cue.
func part(op, unit, from, to int) api.Edit {
	return api.Edit{Op: op, Unit: unit, From: from, To: to}
}

// TestParts: P2002's parts, and the example 1.
func TestParts(t *testing.T) {
	d := doc(secs(0, 1, "a\U0001f600b\xc3é")) // bytes 0 1 5 6 7 9, pairs 0 1 3 4 5 6
	for _, x := range []struct {
		unit, from, to int
		f              api.Errno
	}{
		{api.UBytes, 1, 5, api.OK}, {api.USigns, 1, 2, api.OK}, {api.UPairs, 1, 3, api.OK},
		{api.UBytes, 1, 3, api.ErrWithin}, {api.UPairs, 1, 2, api.ErrWithin}, {api.USigns, 1, 6, api.ErrArg},
		{api.UBytes, 2, 3, api.ErrWithin}, {api.UBytes, 8, 9, api.ErrWithin}, {api.UBytes, 1, 10, api.ErrArg},
		{api.UPairs, 2, 99, api.ErrWithin}, {api.UPairs, 7, 2, api.ErrArg}, {api.UPairs, 3, 7, api.ErrArg},
		{api.UBytes, 4, -1, api.ErrWithin}, {api.UBytes, -1, 4, api.ErrArg}, {api.UBytes, 5, 4, api.ErrWithin},
		{api.UBytes, 5, 1, api.ErrArg}, {api.USigns, 2, 1, api.ErrArg}, {api.UPairs, 3, 1, api.ErrArg}, {api.USigns, 5, 4, api.ErrArg},
		{api.USigns, math.MaxInt, 1, api.ErrArg}, {api.USigns, 1, math.MinInt, api.ErrArg},
		{0, 1, 2, api.ErrKind}, {4, -1, -1, api.ErrKind}, {-1, 1, 3, api.ErrKind}, {math.MaxInt, 2, 1, api.ErrKind},
	} {
		want := doc(secs(0, 1, "a-b\xc3é"))
		e := part(api.EText, x.unit, x.from, x.to)
		e.Text = api.Text{S: "-"}
		hold(t, d, e, want, x.f)
		e.Text.S = strings.Repeat("x", 4097)
		if x.f == api.OK {
			hold(t, d, e, want, api.ErrLong)
		} else {
			hold(t, d, e, want, x.f)
		}
		e = part(api.EStyle, x.unit, x.from, x.to)
		e.Kind = api.KBold
		hold(t, d, e, doc(secs(0, 1, "a\U0001f600b\xc3é", b(1, 2))), x.f)
		e.Kind = 6
		if x.f == api.OK {
			hold(t, d, e, want, api.ErrSpan)
		} else {
			hold(t, d, e, want, x.f)
		}
	}
}

// TestText: P2002's EText, and the example 2.
func TestText(t *testing.T) {
	text := func(from, to int, s string, spans ...api.Span) api.Edit {
		e := part(api.EText, api.USigns, from, to)
		e.Text = api.Text{S: s, Spans: spans}
		return e
	}
	d := doc(secs(0, 1, "abcd", i(2, 3), b(1, 3)))
	hold(t, d, text(1, 3, "x"), doc(secs(0, 1, "axd", b(1, 2))), api.OK)
	hold(t, d, text(2, 2, "xy", c(1, 0, 1)), doc(secs(0, 1, "abxycd", b(1, 5), i(4, 5), c(1, 2, 3))), api.OK)
	hold(t, d, text(0, 4, ""), doc(secs(0, 1, "")), api.OK)
	hold(t, d, text(0, 0, ""), doc(secs(0, 1, "abcd", b(1, 3), i(2, 3))), api.OK)
	hold(t, doc(secs(0, 1, "")), text(0, 0, ""), doc(secs(0, 1, "")), api.OK)
	hold(t, d, text(0, 0, "x", b(0, 2)), doc(), api.ErrSpan)
	hold(t, d, text(0, 0, "x", append(heap(256), b(0, 2))...), doc(), api.ErrMany)
	hold(t, doc(secs(0, 1, "\xc3")), text(1, 1, "\xa9", b(0, 2)), doc(), api.ErrSpan)
	hold(t, doc(secs(0, 1, "\xc3")), text(1, 1, "\xa9"), doc(), api.ErrSeam)
	hold(t, doc(secs(0, 1, "\xc3a\xa9")), text(1, 2, ""), doc(), api.ErrSeam)
	hold(t, doc(secs(0, 1, strings.Repeat("x", 4095)+"\xc3")), text(4096, 4096, "\xa9"), doc(), api.ErrLong)
	hold(t, doc(secs(0, 1, strings.Repeat("x", 4095))), text(9, 9, "y"), doc(secs(0, 1, strings.Repeat("x", 9)+"y"+strings.Repeat("x", 4086))), api.OK)
	hold(t, doc(secs(0, 1, "ab", heap(256)...)), text(1, 2, "c", b(0, 1)), doc(), api.ErrMany)
	hold(t, doc(secs(0, 1, "ab", heap(255)...)), text(1, 2, "c", b(0, 1)), doc(secs(0, 1, "ac", append(heap(255), b(1, 2))...)), api.OK)
	// The other cues stay as they are.
	e := text(1, 1, "-")
	e.Cue = 1
	hold(t, doc(secs(0, 1, "ab"), secs(0, 1, "cd"), secs(0, 1, "ef")), e, doc(secs(0, 1, "ab"), secs(0, 1, "c-d"), secs(0, 1, "ef")), api.OK)
}

// TestStyle: P2002's EStyle.
func TestStyle(t *testing.T) {
	set := func(from, to, kind, value int) api.Edit {
		e := part(api.EStyle, api.USigns, from, to)
		e.Kind, e.Value = kind, value
		return e
	}
	d := doc(secs(0, 1, "abcd", i(0, 2), c(1, 0, 4)))
	hold(t, d, set(1, 3, api.KBold, 0), doc(secs(0, 1, "abcd", i(0, 1), c(1, 0, 1), b(1, 3), i(1, 2), c(1, 1, 2), c(1, 2, 3), c(1, 3, 4))), api.OK)
	hold(t, d, set(0, 4, api.KColour, 0xFFFFFF), doc(secs(0, 1, "abcd", i(0, 2), c(0xFFFFFF, 0, 2), c(0xFFFFFF, 2, 4))), api.OK)
	hold(t, d, set(0, 4, api.KColour, 0x1000000), doc(), api.ErrSpan)
	hold(t, d, set(0, 4, api.KColour, -1), doc(), api.ErrSpan)
	hold(t, d, set(0, 4, api.KBold, 1), doc(), api.ErrSpan)
	hold(t, d, set(2, 2, api.KBold, 0), doc(), api.ErrSpan)
	hold(t, d, set(0, 4, 0, 0), doc(), api.ErrSpan)
	hold(t, d, set(0, 4, 6, 0), doc(), api.ErrSpan)
	long := strings.Repeat("x", 600)
	hold(t, doc(secs(0, 1, long, comb(255)...)), set(510, 511, api.KBold, 0), doc(secs(0, 1, long, comb(256)...)), api.OK)
	hold(t, doc(secs(0, 1, long, comb(256)...)), set(512, 513, api.KBold, 0), doc(), api.ErrMany)
	hold(t, doc(secs(0, 1, long, comb(256)...)), set(0, 600, api.KBold, 0), doc(secs(0, 1, long, b(0, 600))), api.OK)
}

// TestShift: P2002's EShift, and the example 4.
func TestShift(t *testing.T) {
	shift := func(from, to int, by api.Ratio) api.Edit {
		return api.Edit{Op: api.EShift, Cue: from, To: to, Start: by}
	}
	x := func(from, to api.Ratio) api.Cue {
		return but(at(from, to, "ab"), func(x *api.Cue) { x.Lane, x.Name, x.Text.Spans = 2, "n", []api.Span{i(0, 1), b(0, 2)} })
	}
	d := doc(x(whole(1), whole(4)), x(whole(2), whole(3)), x(whole(2), whole(5)))
	for _, k := range []struct {
		e    api.Edit
		want api.Doc
		f    api.Errno
	}{
		{shift(0, 3, r(1, 2)), doc(x(r(3, 2), r(9, 2)), x(r(5, 2), r(7, 2)), x(r(5, 2), r(11, 2))), api.OK},
		{shift(0, 3, whole(-1)), doc(x(whole(0), whole(3)), x(whole(1), whole(2)), x(whole(1), whole(4))), api.OK},
		{shift(0, 3, r(-1001, 1000)), doc(), api.ErrBack},
		{shift(0, 1, r(-1, 2)), doc(x(r(1, 2), r(7, 2)), d.Cues[1], d.Cues[2]), api.OK},
		{shift(0, 1, whole(1)), doc(), api.ErrOrder}, // from 2 to 5, ahead of 2 to 3
		{shift(0, 1, r(9, 10)), doc(x(r(19, 10), r(49, 10)), d.Cues[1], d.Cues[2]), api.OK},
		{shift(1, 2, whole(1)), doc(), api.ErrOrder},
		{shift(1, 2, whole(-1)), doc(), api.ErrOrder}, // from 1 to 2, behind 1 to 4
		{shift(1, 3, r(-9, 10)), doc(d.Cues[0], x(r(11, 10), r(21, 10)), x(r(11, 10), r(41, 10))), api.OK},
		{shift(2, 3, whole(7)), doc(d.Cues[0], d.Cues[1], x(whole(9), whole(12))), api.OK},
		{shift(2, 3, r(-1, 1000)), doc(), api.ErrOrder},
		{shift(0, 3, whole(0)), d, api.OK},
		{shift(0, 3, whole(359995)), doc(x(whole(359996), whole(359999)), x(whole(359997), whole(359998)), x(whole(359997), whole(360000))), api.OK},
		{shift(0, 3, whole(359996)), doc(), api.ErrTime},
		{shift(0, 2, whole(359996)), doc(), api.ErrOrder},
		// nothing is moved: the amount must be right all the same
		{shift(0, 0, whole(99)), d, api.OK},
		{shift(3, 3, whole(-1<<62)), d, api.OK},
		{shift(1, 1, r(2, 4)), doc(), api.ErrWide},
		{shift(1, 0, r(2, 4)), doc(), api.ErrArg},
		{shift(0, 4, r(2, 4)), doc(), api.ErrArg},
		{shift(-1, 2, whole(1)), doc(), api.ErrArg},
		{shift(4, 4, whole(1)), doc(), api.ErrArg},
		{shift(0, -1, whole(1)), doc(), api.ErrArg},
		{shift(0, math.MaxInt, whole(1)), doc(), api.ErrArg},
		{shift(math.MinInt, math.MaxInt, whole(1)), doc(), api.ErrArg},
		{shift(0, 3, api.Ratio{}), doc(), api.ErrWide},
		{shift(0, 3, r(-1<<63, 1)), doc(), api.ErrWide},
		// sums that fit, but not as times: what is below 0 is told first
		{shift(0, 3, r(1, 1<<20+1)), doc(), api.ErrWide},
		{shift(0, 3, r(-2<<20-3, 1<<20+1)), doc(), api.ErrBack},
		{shift(0, 3, whole(1<<62)), doc(), api.ErrWide}, // a sum that does not fit
		{shift(0, 3, whole(1<<62-9)), doc(), api.ErrTime},
		{shift(0, 3, whole(-1<<62)), doc(), api.ErrBack},
		{shift(0, 3, r(1, 1<<20)), doc(x(r(1<<20+1, 1<<20), r(4<<20+1, 1<<20)), x(r(2<<20+1, 1<<20), r(3<<20+1, 1<<20)), x(r(2<<20+1, 1<<20), r(5<<20+1, 1<<20))), api.OK},
	} {
		hold(t, d, k.e, k.want, k.f)
	}
	// The first of the times that may not be: of the first cue its End, ahead of the next one's Start.
	late := doc(at(r(1, 3), whole(359999), ""), at(r(1, 2), whole(2), ""))
	hold(t, late, shift(0, 2, whole(2)), doc(), api.ErrTime)
	hold(t, late, shift(0, 2, r(-1, 3)), doc(at(whole(0), r(1079996, 3), ""), at(r(1, 6), r(5, 3), "")), api.OK)
	hold(t, doc(at(r(1, 1<<20-1), whole(5), ""), at(r(1, 2), whole(5), "")), shift(0, 2, r(-3, 1<<20-3)), doc(), api.ErrWide) // a sum that does not fit is not known to be below 0
	hold(t, doc(at(whole(1), r(4, 3), "")), shift(0, 1, r(1, 1<<20-1)), doc(at(r(1<<20, 1<<20-1), r(1398101, 1<<20-1), "")), api.OK)
	hold(t, doc(at(whole(1), r(3, 2), "")), shift(0, 1, r(1, 1<<20-1)), doc(), api.ErrWide)
	hold(t, doc(secs(0, 1, ""), secs(0, 5, "")), shift(0, 2, whole(-1)), doc(), api.ErrBack)
	hold(t, doc(), shift(0, 0, whole(1)), doc(), api.OK)
	hold(t, doc(), shift(0, 1, whole(1)), doc(), api.ErrArg)
}

// TestSplit: P2002's ESplit, and the example 3.
func TestSplit(t *testing.T) {
	split := func(n, unit, from int, time api.Ratio) api.Edit {
		return api.Edit{Op: api.ESplit, Cue: n, Unit: unit, From: from, Start: time}
	}
	hold(t, two(), split(1, api.USigns, 1, r(1, 2)), doc(), api.ErrOrder)
	hold(t, two(), split(0, api.USigns, 1, r(1, 2)), doc(at(whole(0), r(1, 2), "a"), secs(0, 5, "cd"), at(r(1, 2), whole(1), "b")), api.OK)
	hold(t, two(), split(1, api.USigns, 1, whole(1)), doc(secs(0, 1, "ab"), secs(0, 1, "c"), secs(1, 5, "d")), api.OK)
	hold(t, two(), split(1, api.USigns, 1, whole(2)), doc(secs(0, 1, "ab"), secs(0, 2, "c"), secs(2, 5, "d")), api.OK)
	// Lane, Side, Name; the texts are Cut's, the outer spans first.
	x := but(secs(1, 9, "aé\U0001f600d", i(1, 3), b(0, 4), c(1, 3, 4)), func(x *api.Cue) { x.Lane, x.Side, x.Name = 7, api.High, "Ann" })
	parts := func(front, rest string, fronts, rests []api.Span) api.Doc {
		return doc(but(x, func(x *api.Cue) { x.End, x.Text = whole(4), api.Text{S: front, Spans: fronts} }), but(x, func(x *api.Cue) { x.Start, x.Text = whole(4), api.Text{S: rest, Spans: rests} }))
	}
	mid := parts("aé", "\U0001f600d", []api.Span{b(0, 2), i(1, 2)}, []api.Span{b(0, 2), i(0, 1), c(1, 1, 2)})
	hold(t, doc(x), split(0, api.USigns, 2, whole(4)), mid, api.OK)
	hold(t, doc(x), split(0, api.UBytes, 3, whole(4)), mid, api.OK)
	hold(t, doc(x), split(0, api.UPairs, 2, whole(4)), mid, api.OK)
	hold(t, doc(x), split(0, api.USigns, 0, whole(4)), parts("", x.Text.S, nil, []api.Span{b(0, 4), i(1, 3), c(1, 3, 4)}), api.OK)
	hold(t, doc(x), split(0, api.USigns, 4, whole(4)), parts(x.Text.S, "", []api.Span{b(0, 4), i(1, 3), c(1, 3, 4)}, nil), api.OK)
	// The errors, in their order.
	for _, k := range []struct {
		e api.Edit
		f api.Errno
	}{
		{split(1, 0, 9, r(2, 4)), api.ErrArg},
		{split(0, 0, 9, r(2, 4)), api.ErrKind},
		{split(0, 4, 2, whole(4)), api.ErrKind},
		{split(0, api.UBytes, 2, r(2, 4)), api.ErrWithin},
		{split(0, api.UPairs, 3, whole(-1)), api.ErrWithin},
		{split(0, api.USigns, 5, r(2, 4)), api.ErrArg},
		{split(0, api.USigns, -1, r(2, 4)), api.ErrArg},
		{split(0, api.USigns, 2, r(2, 4)), api.ErrWide},
		{split(0, api.USigns, 2, r(3<<20+4, 1<<20+1)), api.ErrWide},
		{split(0, api.USigns, 2, whole(-1)), api.ErrTime},
		{split(0, api.USigns, 2, whole(360001)), api.ErrTime},
		{split(0, api.USigns, 2, whole(0)), api.ErrBack},
		{split(0, api.USigns, 2, whole(1)), api.ErrBack},
		{split(0, api.USigns, 2, whole(9)), api.ErrBack},
		{split(0, api.USigns, 2, whole(360000)), api.ErrBack},
	} {
		hold(t, doc(x), k.e, doc(), k.f)
	}
	for _, time := range []api.Ratio{r(1<<20+1, 1<<20), r(9<<20-1, 1<<20)} {
		if l := begin(t, doc(x)); l.Do(split(0, api.USigns, 2, time)) != api.OK || l.Doc().Cues[0].End != time || l.Doc().Cues[1].Start != time {
			t.Errorf("%v: %+v", time, l.Doc())
		}
	}
	// The end of the part is not looked at.
	e := split(0, api.USigns, 2, whole(4))
	e.To, e.End, e.Text.Spans = -1, r(2, 4), heap(300)
	hold(t, doc(x), e, mid, api.OK)
}

// TestRest: P2002: the rest of a cue that is split is laid behind all cues that do not stand behind it.
func TestRest(t *testing.T) {
	x := secs(0, 6, "ab")
	split := api.Edit{Op: api.ESplit, Unit: api.USigns, From: 1, Start: whole(3)}
	front, rest := secs(0, 3, "a"), secs(3, 6, "b")
	for _, k := range []struct{ others, ahead, behind []api.Cue }{
		{},
		{[]api.Cue{secs(0, 9, "")}, []api.Cue{secs(0, 9, "")}, nil},
		{[]api.Cue{secs(1, 2, ""), secs(3, 5, ""), secs(3, 6, "p"), secs(3, 6, "q"), secs(3, 7, ""), secs(4, 5, "")}, []api.Cue{secs(1, 2, ""), secs(3, 5, ""), secs(3, 6, "p"), secs(3, 6, "q")}, []api.Cue{secs(3, 7, ""), secs(4, 5, "")}},
		{[]api.Cue{secs(3, 7, "")}, nil, []api.Cue{secs(3, 7, "")}},
		{[]api.Cue{secs(4, 5, "")}, nil, []api.Cue{secs(4, 5, "")}},
		{[]api.Cue{secs(2, 9, ""), secs(2, 9, "")}, []api.Cue{secs(2, 9, ""), secs(2, 9, "")}, nil},
	} {
		d := doc(append([]api.Cue{x}, k.others...)...)
		hold(t, d, split, doc(slices.Concat([]api.Cue{front}, k.ahead, []api.Cue{rest}, k.behind)...), api.OK)
	}
	// The front of the second one, with the same Start as the first one.
	for _, k := range []struct {
		end int64
		f   api.Errno
	}{{2, api.OK}, {3, api.OK}, {4, api.ErrOrder}, {6, api.ErrOrder}} {
		e := split
		e.Cue = 1
		hold(t, doc(secs(0, k.end, ""), x), e, doc(secs(0, k.end, ""), front, rest), k.f)
	}
	// Too many, ahead of the order, behind the time; both sides of the bound.
	full := times(4096, x)
	for time, f := range map[api.Ratio]api.Errno{whole(3): api.ErrMany, whole(6): api.ErrBack} {
		e := split
		e.Cue, e.Start = 4095, time
		if g := begin(t, full).Do(e); g != f {
			t.Errorf("%v: %v; want %v", time, g, f)
		}
	}
	l := begin(t, doc(full.Cues[1:]...))
	if f := l.Do(split); f != api.OK || !sameCue(l.Doc().Cues[4095], rest) || !sameCue(l.Doc().Cues[0], front) || l.Undo() != api.OK || len(l.Doc().Cues) != 4095 {
		t.Error(f)
	}
}

// TestJoin: P2002's EJoin.
func TestJoin(t *testing.T) {
	join := func(n int) api.Edit { return api.Edit{Op: api.EJoin, Cue: n} }
	named := func(x api.Cue, lane, side int, name string) api.Cue {
		x.Lane, x.Side, x.Name = lane, side, name
		return x
	}
	x := named(secs(0, 4, "ab", i(1, 2), b(0, 2)), 1, api.High, "Ann")
	y := named(secs(1, 3, "cd", c(1, 0, 1)), 2, api.Low, "Bob")
	z := named(secs(1, 9, "\xc3", b(0, 1)), 3, api.Low, "")
	d := doc(x, y, z)
	hold(t, d, join(0), doc(named(secs(0, 4, "abcd", i(1, 2), b(0, 2), c(1, 2, 3)), 1, api.High, "Ann"), z), api.OK)
	hold(t, d, join(1), doc(x, named(secs(1, 9, "cd\xc3", c(1, 0, 1), b(2, 3)), 2, api.Low, "Bob")), api.OK)
	hold(t, d, join(2), doc(), api.ErrArg)
	hold(t, d, join(3), doc(), api.ErrArg)
	hold(t, d, join(-1), doc(), api.ErrArg)
	hold(t, d, join(math.MaxInt), doc(), api.ErrArg)
	hold(t, doc(x), join(0), doc(), api.ErrArg)
	hold(t, doc(), join(0), doc(), api.ErrArg)
	hold(t, doc(), join(-1), doc(), api.ErrArg)
	long := strings.Repeat("x", 4095)
	hold(t, doc(secs(0, 1, long), secs(0, 1, "y")), join(0), doc(secs(0, 1, long+"y")), api.OK)
	hold(t, doc(secs(0, 1, long+"\xc3"), secs(0, 1, "\xa9")), join(0), doc(), api.ErrLong)
	hold(t, doc(secs(0, 1, "a\xc3", heap(256)...), secs(0, 1, "\xa9", b(0, 1))), join(0), doc(), api.ErrSeam)
	hold(t, doc(secs(0, 1, "a", heap(256)...), secs(0, 1, "b", b(0, 1))), join(0), doc(), api.ErrMany)
	hold(t, doc(secs(0, 1, "a", heap(255)...), secs(0, 1, "b", b(0, 1))), join(0), doc(secs(0, 1, "ab", append(heap(255), b(1, 2))...)), api.OK)
	// The greater End, with the same Start as the next one.
	hold(t, doc(secs(0, 1, "a"), secs(0, 5, "b"), secs(0, 5, "c")), join(0), doc(secs(0, 5, "ab"), secs(0, 5, "c")), api.OK)
}

// TestPlace: P2002's EPlace and ERename.
func TestPlace(t *testing.T) {
	x := but(secs(0, 1, "ab", i(0, 1), b(0, 2)), func(x *api.Cue) { x.Lane, x.Side, x.Name = 3, api.High, "Ann" })
	other := secs(0, 1, "")
	for _, k := range []struct {
		lane, side int
		f          api.Errno
	}{
		{0, 0, api.OK}, {7, 1, api.OK}, {3, 1, api.OK}, {8, 0, api.ErrLane}, {-1, 0, api.ErrLane}, {0, 2, api.ErrLane}, {0, -1, api.ErrLane}, {math.MaxInt, math.MinInt, api.ErrLane},
	} {
		want := doc(other, but(x, func(x *api.Cue) { x.Lane, x.Side = k.lane, k.side }), other)
		hold(t, doc(other, x, other), api.Edit{Op: api.EPlace, Cue: 1, Lane: k.lane, Side: k.side}, want, k.f)
	}
	for _, k := range []struct {
		name string
		f    api.Errno
	}{
		{"", api.OK}, {"Bob", api.OK}, {" \x7f\xff<>", api.OK}, {strings.Repeat("é", 32), api.OK}, {strings.Repeat("n", 65), api.ErrName}, {"a\n", api.ErrName}, {"\x00", api.ErrName}, {"\x1f", api.ErrName},
	} {
		want := doc(other, but(x, func(x *api.Cue) { x.Name = k.name }), other)
		hold(t, doc(other, x, other), api.Edit{Op: api.ERename, Cue: 1, Name: k.name}, want, k.f)
	}
}

// TestNotLookedAt: fields that a row does not name are not looked at.
func TestNotLookedAt(t *testing.T) {
	bad := api.Edit{
		Unit: 9, From: -1, To: -1, Kind: -1, Value: -1, Start: r(2, 4), End: r(2, 4), Lane: -1, Side: -1, Name: "\n",
		Text: api.Text{S: strings.Repeat("x", 5000), Spans: heap(300)}, New: api.Cue{Start: r(2, 4), Lane: -1},
	}
	with := func(op int, set func(e *api.Edit)) api.Edit {
		e := bad
		e.Op = op
		set(&e)
		return e
	}
	part := func(e *api.Edit) { e.Unit, e.From, e.To = api.USigns, 0, 1 }
	for _, e := range []api.Edit{
		with(api.ELay, func(e *api.Edit) { e.New = secs(0, 1, "") }),
		with(api.ETake, func(e *api.Edit) {}),
		with(api.ETimes, func(e *api.Edit) { e.Start, e.End = whole(0), whole(2) }),
		with(api.EText, func(e *api.Edit) { part(e); e.Text = api.Text{S: "-"} }),
		with(api.EStyle, func(e *api.Edit) { part(e); e.Kind, e.Value = api.KBold, 0 }),
		with(api.EShift, func(e *api.Edit) { e.To, e.Start = 2, whole(1) }),
		with(api.ESplit, func(e *api.Edit) { e.Unit, e.From, e.Start = api.USigns, 1, r(1, 2) }),
		with(api.EJoin, func(e *api.Edit) {}),
		with(api.EPlace, func(e *api.Edit) { e.Lane, e.Side = 1, 1 }),
		with(api.ERename, func(e *api.Edit) { e.Name = "n" }),
	} {
		want, f := editWords(two(), e)
		if f != api.OK {
			t.Fatalf("%+v: %v", e, f)
		}
		hold(t, two(), e, want, api.OK)
	}
}

// insert is an edit that lays a text in ahead of the first cue's.
func insert(s string) api.Edit {
	return api.Edit{Op: api.EText, Unit: api.USigns, Text: api.Text{S: s}}
}

// TestUndo: P2002 to P2004: what can be undone, and done again, one behind the other.
func TestUndo(t *testing.T) {
	l := begin(t, doc(secs(0, 1, "")))
	stands := func(what string, got, f api.Errno, s string, done, undone int) {
		t.Helper()
		if got != f || l.Doc().Cues[0].Text.S != s || l.Done() != done || l.Undone() != undone {
			t.Errorf("%s: %v, %q, %d, %d; want %v, %q, %d, %d", what, got, l.Doc().Cues[0].Text.S, l.Done(), l.Undone(), f, s, done, undone)
		}
	}
	stands("Undo", l.Undo(), api.ErrNone, "", 0, 0)
	stands("Redo", l.Redo(), api.ErrNone, "", 0, 0)
	stands("Do", l.Do(insert("a")), api.OK, "a", 1, 0)
	stands("Do", l.Do(insert("b")), api.OK, "ba", 2, 0)
	stands("Do", l.Do(insert("c")), api.OK, "cba", 3, 0)
	stands("Redo", l.Redo(), api.ErrNone, "cba", 3, 0)
	stands("Undo", l.Undo(), api.OK, "ba", 2, 1)
	stands("Undo", l.Undo(), api.OK, "a", 1, 2)
	stands("Redo", l.Redo(), api.OK, "ba", 2, 1)
	// What is refused leaves what was undone.
	stands("Do", l.Do(api.Edit{Op: api.ETake, Cue: 1}), api.ErrArg, "ba", 2, 1)
	stands("Redo", l.Redo(), api.OK, "cba", 3, 0)
	stands("Undo", l.Undo(), api.OK, "ba", 2, 1)
	stands("Undo", l.Undo(), api.OK, "a", 1, 2)
	stands("Undo", l.Undo(), api.OK, "", 0, 3)
	stands("Undo", l.Undo(), api.ErrNone, "", 0, 3)
	stands("Redo", l.Redo(), api.OK, "a", 1, 2)
	// An edit, also one that changes nothing, ends what was undone.
	stands("Do", l.Do(insert("")), api.OK, "a", 2, 0)
	stands("Redo", l.Redo(), api.ErrNone, "a", 2, 0)
	stands("Undo", l.Undo(), api.OK, "a", 1, 1)
	stands("Do", l.Do(insert("d")), api.OK, "da", 2, 0)
	stands("Undo", l.Undo(), api.OK, "a", 1, 1)
	stands("Undo", l.Undo(), api.OK, "", 0, 2)
}

// TestEldest: P2002, P2003: 1024 edits can be undone; behind one more the eldest can't.
func TestEldest(t *testing.T) {
	for _, many := range []int{1023, 1024, 1025, 1026, 2500} {
		l := begin(t, doc(secs(0, 1, "")))
		name := func(n int) string { return strings.Repeat("n", n%50) }
		for n := 1; n <= many; n++ {
			if f := l.Do(api.Edit{Op: api.ERename, Name: name(n)}); f != api.OK || l.Done() != min(n, 1024) {
				t.Fatal(n, f, l.Done())
			}
		}
		can := min(many, 1024)
		for n := 1; n <= can; n++ {
			if f := l.Undo(); f != api.OK || l.Done() != can-n || l.Undone() != n || l.Doc().Cues[0].Name != name(many-n) {
				t.Fatal(n, f, l.Done(), l.Undone(), l.Doc())
			}
		}
		if l.Undo() != api.ErrNone || l.Undone() != can {
			t.Error(l.Undone())
		}
		for n := can - 1; n >= 0; n-- {
			if f := l.Redo(); f != api.OK || l.Done() != can-n || l.Undone() != n || l.Doc().Cues[0].Name != name(many-n) {
				t.Fatal(n, f, l.Done(), l.Undone(), l.Doc())
			}
		}
		if l.Redo() != api.ErrNone || l.Done() != can {
			t.Error(l.Done())
		}
	}
}

// TestTwin: P2004: what is done to a log is not done to its twin.
func TestTwin(t *testing.T) {
	l := begin(t, doc(secs(0, 1, "")))
	for _, s := range []string{"a", "b", "c", "d", "e"} {
		l.Do(insert(s))
	}
	l.Undo()
	l.Undo()
	x, y := l.Twin(), l.Twin()
	stands := func(what string, l *edit.Log, s string, done, undone int) {
		t.Helper()
		if l.Doc().Cues[0].Text.S != s || l.Done() != done || l.Undone() != undone {
			t.Errorf("%s: %q, %d, %d; want %q, %d, %d", what, l.Doc().Cues[0].Text.S, l.Done(), l.Undone(), s, done, undone)
		}
	}
	// Both go another way, so that what is kept behind one another's rows would be seen.
	l.Do(insert("l"))
	x.Do(insert("x"))
	y.Redo()
	stands("the log", l, "lcba", 4, 0)
	stands("its twin", x, "xcba", 4, 0)
	stands("the other one", y, "dcba", 4, 1)
	for l, undone := range map[*edit.Log]int{l: 2, x: 2, y: 3} {
		l.Undo()
		l.Undo()
		stands("undone", l, "ba", 2, undone)
	}
	l.Redo()
	l.Redo()
	x.Redo()
	x.Redo()
	y.Redo()
	y.Redo()
	y.Redo()
	stands("the log", l, "lcba", 4, 0)
	stands("its twin", x, "xcba", 4, 0)
	stands("the other one", y, "edcba", 5, 0)
	none := begin(t, doc()).Twin()
	if len(none.Doc().Cues) != 0 || none.Done() != 0 || none.Undo() != api.ErrNone || none.Redo() != api.ErrNone || none.Do(api.Edit{Op: api.ELay, New: secs(0, 1, "")}) != api.OK {
		t.Error("a twin of a log without anything")
	}
}

// TestSpansInOrder: P2003, P2005: the same document is the same with its spans in their order, also those that no look tells apart.
func TestSpansInOrder(t *testing.T) {
	x := secs(0, 9, "abcd", i(2, 3), c(1, 1, 3), b(0, 4), c(2, 1, 3), i(1, 3), b(1, 2))
	y := secs(1, 3, "ef", i(0, 1), b(0, 2), b(0, 2))
	d := doc(x, y)
	if n, _ := style.Norm(x.Text); slices.Equal(n.Spans, x.Text.Spans) {
		t.Fatal("the spans are normal")
	}
	l := begin(t, d)
	for _, e := range []api.Edit{
		{Op: api.EText, Unit: api.USigns, From: 1, To: 2, Text: api.Text{S: "z"}},
		{Op: api.EStyle, Unit: api.USigns, From: 0, To: 2, Kind: api.KStrike},
		{Op: api.ESplit, Unit: api.USigns, From: 2, Start: whole(1)},
		{Op: api.ESplit, Unit: api.USigns, From: 2, Start: whole(5)},
		{Op: api.EJoin}, {Op: api.ETake}, {Op: api.ETake, Cue: 1},
		{Op: api.EShift, To: 2, Start: r(1, 3)},
		{Op: api.ETimes, Start: whole(0), End: whole(1)},
		{Op: api.EPlace, Lane: 2, Side: 1}, {Op: api.ERename, Name: "n"},
	} {
		want, _ := editWords(d, e)
		hold(t, d, e, want, api.OK)
		if l.Do(e) != api.OK || l.Undo() != api.OK || !sameDoc(l.Doc(), d) {
			t.Errorf("%+v: %+v", e, l.Doc())
		}
	}
}
