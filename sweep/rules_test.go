package sweep_test

import (
	"math"
	"math/big"
	"slices"
	"strings"
	"testing"
	"unsafe"

	"surtitle/api"
	"surtitle/cue"
	"surtitle/style"
	"surtitle/sweep"
)

// moments are all marks of a document, times between them, and the ends of time.
func moments(d api.Doc) []api.Ratio {
	l := []api.Ratio{whole(0), whole(api.MaxTime)}
	marks := marksWords(d)
	for n, x := range marks {
		l = append(l, x)
		if n > 0 {
			y := new(big.Rat).Add(rat(marks[n-1]), rat(x))
			if z, ok := fits(y.Quo(y, big.NewRat(2, 1))); ok {
				l = append(l, z)
			}
		}
	}
	return l
}

// activeAt tells the numbers of the cues that chapter 9 tells.
func activeAt(d api.Doc, t api.Ratio) []int {
	var l []int
	for n := range cue.Active(d, t) {
		l = append(l, n)
	}
	return l
}

// TestSegmentsSayWho: P1206 (T9): at every time the same cues are active as its segment says; a time at which none is lies in none.
func TestSegmentsSayWho(t *testing.T) {
	m, none := newMaker(5), 0
	for range 3000 {
		d := m.doc(7, pick(m, tame(), wild()))
		l, err := sweep.Segments(d)
		if err != nil {
			t.Fatal(err)
		}
		for n := 1; n < len(l); n++ {
			if above(l[n-1].To, l[n].From) {
				t.Fatalf("Segments(%+v): %v", d, l)
			}
		}
		for _, at := range moments(d) {
			var said []int
			for _, s := range l {
				if !above(s.From, at) && above(s.To, at) {
					said = append(said, s.Cues...)
				}
			}
			if len(said) == 0 {
				none++
			}
			if !slices.Equal(said, activeAt(d, at)) {
				t.Fatalf("Segments(%+v): %v; at %v %v are active", d, l, at, activeAt(d, at))
			}
		}
	}
	if none < 1000 {
		t.Errorf("only %d times without any: the documents try too little", none)
	}
}

// TestStackIsCovered: P1206 (T1, T9): what Stack tells is right, has no overlaps, and is active just where d is.
func TestStackIsCovered(t *testing.T) {
	m := newMaker(6)
	for range 3000 {
		d := m.doc(7, pick(m, tame(), wild()))
		x, err := sweep.Stack(d)
		pairs, err2 := sweep.Overlaps(x, 1)
		if err != nil || err2 != nil || len(pairs) > 0 || cue.CheckDoc(x) != nil {
			t.Fatalf("Stack(%+v): %+v, %v; it overlaps: %v, %v", d, x, err, pairs, err2)
		}
		for _, at := range moments(d) {
			if n := len(activeAt(x, at)); n > 1 || (n == 1) != (len(activeAt(d, at)) > 0) {
				t.Fatalf("Stack(%+v): %+v; at %v: %d", d, x, at, n)
			}
		}
		long, err := sweep.Covered(d)
		long2, err2 := sweep.Covered(x)
		if long != long2 || (err == nil) != (err2 == nil) {
			t.Fatalf("Stack(%+v): %+v; it covers %v, %v; want %v, %v", d, x, long2, err2, long, err)
		}
	}
}

// TestTrimIsCovered: P1206 (T1, T9): what Trim tells is right, has no overlaps, is active only where d is; its Starts are d's.
func TestTrimIsCovered(t *testing.T) {
	m, gone := newMaker(7), 0
	starts := func(d api.Doc) []api.Ratio {
		var l []api.Ratio
		for _, x := range d.Cues {
			l = append(l, x.Start)
		}
		return l
	}
	for range 3000 {
		d := m.doc(7, pick(m, tame(), wild()))
		x, err := sweep.Trim(d)
		pairs, err2 := sweep.Overlaps(x, 1)
		if err != nil || err2 != nil || len(pairs) > 0 || cue.CheckDoc(x) != nil {
			t.Fatalf("Trim(%+v): %+v, %v; it overlaps: %v, %v", d, x, err, pairs, err2)
		}
		if !slices.Equal(starts(x), slices.Compact(starts(d))) {
			t.Fatalf("Trim(%+v): %+v", d, x)
		}
		for _, at := range moments(d) {
			in, was := len(activeAt(x, at)), len(activeAt(d, at))
			if in > 1 || in > was {
				t.Fatalf("Trim(%+v): %+v; at %v: %d", d, x, at, in)
			}
			if in < min(was, 1) {
				gone++
			}
		}
	}
	if gone < 100 {
		t.Errorf("only %d times are no more covered: the documents try too little", gone)
	}
}

// TestMostAndOverlaps: P1207: Most is the greatest number of cues of a segment; Overlaps are empty just where it is 1 at most.
func TestMostAndOverlaps(t *testing.T) {
	m, alone := newMaker(8), 0
	for range 10000 {
		d := m.doc(4, wild())
		most, err := sweep.Most(d)
		l, err2 := sweep.Segments(d)
		pairs, err3 := sweep.Overlaps(d, math.MaxInt)
		greatest := 0
		for _, s := range l {
			greatest = max(greatest, len(s.Cues))
		}
		if err != nil || err2 != nil || err3 != nil || most != greatest || (len(pairs) == 0) != (most <= 1) {
			t.Fatalf("%+v: %d, %v, %v", d, most, l, pairs)
		}
		if most == 1 && len(d.Cues) > 1 {
			alone++
		}
	}
	if alone < 500 {
		t.Errorf("only %d do not overlap: the documents try too little", alone)
	}
}

// TestTwice: P1207: Trim of Trim and Stack of Stack tell the same; of cues apart, too, but for Lanes and normal texts.
func TestTwice(t *testing.T) {
	m := newMaker(9)
	for range 5000 {
		d := m.doc(7, pick(m, tame(), wild()))
		trim, err := sweep.Trim(d)
		again, err2 := sweep.Trim(trim)
		if err != nil || err2 != nil || !sameDoc(trim, again) {
			t.Fatalf("Trim(%+v): %+v, %v; then %+v, %v", d, trim, err, again, err2)
		}
		stack, err := sweep.Stack(d)
		again, err2 = sweep.Stack(stack)
		if err != nil || err2 != nil || !sameDoc(stack, again) {
			t.Fatalf("Stack(%+v): %+v, %v; then %+v, %v", d, stack, err, again, err2)
		}
		again, err = sweep.Trim(stack)
		if err != nil || !sameDoc(stack, again) {
			t.Fatalf("Trim(%+v): %+v, %v", stack, again, err)
		}
		stack, err = sweep.Stack(trim)
		for n := range trim.Cues {
			x := &trim.Cues[n]
			x.Lane = 0
			x.Text, _ = style.Norm(x.Text)
		}
		if err != nil || !sameDoc(stack, trim) {
			t.Fatalf("Stack: %+v, %v; want %+v", stack, err, trim)
		}
	}
}

// TestNothingPanics: P1: any numbers and bytes at all; P4: beside an error stands nothing.
func TestNothingPanics(t *testing.T) {
	m := newMaker(10)
	number := func() int { return int(m.dice.Uint64()) >> m.dice.IntN(64) }
	for range 20000 {
		var d api.Doc
		for range m.dice.IntN(4) {
			x := api.Cue{Start: m.ratio(), End: m.ratio(), Lane: number(), Side: number(), Text: m.text()}
			for range m.dice.IntN(2) {
				x.Text.Spans = append(x.Text.Spans, api.Span{From: number(), To: number(), Kind: number(), Value: number()})
			}
			d.Cues = append(d.Cues, x)
		}
		if m.half() {
			d = m.doc(4, wild())
			m.spoil(d)
		}
		segments, err := sweep.Segments(d)
		most, err2 := sweep.Most(d)
		long, err3 := sweep.Covered(d)
		if err != nil && len(segments) > 0 || err2 != nil && most != 0 || err3 != nil && long != (api.Ratio{}) {
			t.Fatalf("%+v: something stands beside an error", d)
		}
		x, err := sweep.Trim(d)
		y, err2 := sweep.Stack(d)
		l, err3 := sweep.Overlaps(d, number())
		if err != nil && len(x.Cues) > 0 || err2 != nil && len(y.Cues) > 0 || err3 != nil && len(l) > 0 {
			t.Fatalf("%+v: something stands beside an error", d)
		}
	}
}

// TestMostOfAll: P1 and P1201 to P1204 of as many cues as may be, all of them active at one time.
func TestMostOfAll(t *testing.T) {
	const n = api.MaxCues
	var d api.Doc
	for k := range int64(n) {
		d.Cues = append(d.Cues, secs(k, n+k+1, strings.Repeat("x", 4096)))
	}
	l, err := sweep.Segments(d)
	if err != nil || len(l) != 2*n-1 || len(l[n-1].Cues) != n || len(l[2*n-2].Cues) != 1 || len(l[0].Cues) != 1 {
		t.Fatal(len(l), err)
	}
	if most, err := sweep.Most(d); most != n || err != nil {
		t.Error(most, err)
	}
	if long, err := sweep.Covered(d); long != whole(2*n) || err != nil {
		t.Error(long, err)
	}
	if pairs, err := sweep.Overlaps(d, math.MaxInt); len(pairs) != n*(n-1)/2 || err != nil {
		t.Error(len(pairs), err)
	}
	if x, err := sweep.Trim(d); len(x.Cues) != n || err != nil || x.Cues[n-2].End != whole(n-1) {
		t.Error(len(x.Cues), err)
	}
	if _, err := sweep.Stack(d); !(fault{0, api.ErrMany}).is(err) {
		t.Error(err)
	}
}

// TestStackOfAll: P1 and P1203 of as many segments as may be, half of all cues active in each.
func TestStackOfAll(t *testing.T) {
	var d api.Doc
	for range 2047 {
		d.Cues = append(d.Cues, secs(0, 5000, ""))
	}
	for k := range int64(2047) {
		d.Cues = append(d.Cues, secs(2*k+1, 2*k+2, "x"))
	}
	x, err := sweep.Stack(d)
	if err != nil || len(x.Cues) != 4095 || len(x.Cues[0].Text.S) != 2046 || len(x.Cues[1].Text.S) != 2048 {
		t.Error(len(x.Cues), err)
	}
}

// inside tells whether a text lies in the memory of another one.
func inside(part, s string) bool {
	at, from := uintptr(unsafe.Pointer(unsafe.StringData(part))), uintptr(unsafe.Pointer(unsafe.StringData(s)))
	return part != "" && at >= from && at < from+uintptr(len(s))
}

// shareList tells whether two lists have memory in common, spare room and all.
func shareList[T any](x, y []T) bool {
	x, y = x[:cap(x)], y[:cap(y)]
	for p := range x {
		for q := range y {
			if &x[p] == &y[q] {
				return true
			}
		}
	}
	return false
}

// share tells whether two cues have memory in common.
func share(x, y api.Cue) bool {
	return shareList(x.Text.Spans, y.Text.Spans) || inside(x.Name, y.Name) || inside(x.Text.S, y.Text.S)
}

// TestHandedIn: P2: nothing that is handed in is changed, its spare room neither; what is answered is new memory.
func TestHandedIn(t *testing.T) {
	spans := []api.Span{{From: 0, To: 3, Kind: api.KBold}, {From: 9, To: 9}, {From: 8, To: 8}}
	name, text := strings.Repeat("n", 40), strings.Repeat("text ", 9)
	x := api.Cue{Start: whole(0), End: whole(5), Name: name, Text: api.Text{S: text, Spans: spans[:1]}}
	y := by(0, 0, name, at(whole(2), whole(9), text, spans[:1]...))
	z := by(0, 0, name, at(whole(8), whole(9), text))
	for _, l := range [][]api.Cue{{x, x, y, z}, {x, y, z}, {y, z}, {z}, {x, y, y}} {
		cues := append(l, secs(7, 8, "spare"), secs(9, 7, "room"))
		d := api.Doc{Cues: cues[:len(l)]}
		wasCues, wasSpans := cue.Twin(api.Doc{Cues: cues}), slices.Clone(spans)
		for _, f := range []func(api.Doc) (api.Doc, error){sweep.Trim, sweep.Stack} {
			got, err := f(d)
			if err != nil {
				t.Fatal(err)
			}
			if shareList(got.Cues, cues) {
				t.Error("cues share memory")
			}
			for n, p := range got.Cues {
				for k, q := range got.Cues {
					if n != k && share(p, q) {
						t.Errorf("%d shares memory with %d", n, k)
					}
				}
				for _, q := range cues {
					if share(p, q) {
						t.Errorf("%d shares memory with one handed in", n)
					}
				}
				clear(append(p.Text.Spans, api.Span{}))
			}
			clear(append(got.Cues, api.Cue{}))
		}
		if !sameDoc(api.Doc{Cues: cues}, wasCues) || !slices.Equal(spans, wasSpans) {
			t.Errorf("%+v was %+v", cues, wasCues)
		}
	}
}

// TestListsApart: P2: no two lists of an answer share memory.
func TestListsApart(t *testing.T) {
	d := doc(secs(0, 9, ""), secs(1, 9, ""), secs(2, 9, ""), secs(3, 9, ""), secs(3, 5, ""))
	d.Cues = cue.Sort(d.Cues)
	l, err := sweep.Segments(d)
	if err != nil || len(l) != 5 {
		t.Fatal(l, err)
	}
	for n := range l {
		for k := range l[:n] {
			if shareList(l[n].Cues, l[k].Cues) {
				t.Errorf("%d shares memory with %d", n, k)
			}
		}
	}
}

// TestAgain: P3 and P5: the same calls answer the same, an error's own number told anew.
func TestAgain(t *testing.T) {
	d := crowd(long(9), long(4096))
	for range 3 {
		_, err := sweep.Trim(d)
		_, err2 := sweep.Stack(d)
		_, err3 := sweep.Overlaps(d, -1)
		if want := (fault{2, api.ErrLong}); !want.is(err) || !want.is(err2) || !(fault{0, api.ErrArg}).is(err3) {
			t.Fatal(err, err2, err3)
		}
		*err.(*cue.Wrong), *err2.(*cue.Wrong), *err3.(*cue.Wrong) = cue.Wrong{}, cue.Wrong{}, cue.Wrong{}
	}
}
