package cue_test

import (
	"slices"
	"strings"
	"testing"
	"unsafe"

	"surtitle/api"
	"surtitle/cue"
	"surtitle/style"
)

// TestKeepAgain: P907: what is kept is kept again, without losses, and it is right (P908).
func TestKeepAgain(t *testing.T) {
	m := newMaker(11)
	for range 10000 {
		d, can := m.doc(6), m.can()
		kept, _, err := cue.Keep(d, can)
		if err != nil {
			continue
		}
		if err := cue.CheckDoc(kept); err != nil {
			t.Fatalf("Keep(%+v, %+v): %+v is not right: %v", d, can, kept, err)
		}
		again, lost, err := cue.Keep(kept, can)
		if err != nil || len(lost) > 0 || !sameDoc(again, kept) {
			t.Fatalf("Keep(%+v, %+v): %+v; then %+v, %v, %v", d, can, kept, again, lost, err)
		}
	}
}

// TestLossesAreTold: P907: a cue has no losses just where what is made of it is the same cue, its text alike.
func TestLossesAreTold(t *testing.T) {
	m, whole := newMaker(12), 0
	for range 30000 {
		x, can := m.cue(), m.can()
		if m.half() {
			x.Start, x.End = r(1, 2), r(3, 2)
		}
		d := doc(x)
		kept, lost, err := cue.Keep(d, can)
		if err != nil {
			continue
		}
		if (len(lost) == 0) != cue.Same(kept, d) {
			t.Fatalf("Keep(%+v, %+v): %+v, %v", d, can, kept, lost)
		}
		if len(lost) == 0 {
			whole++
		}
		for n, l := range lost {
			if l.Cue != 0 || l.N < 1 || l.Kind < api.LTime || l.Kind > api.LStyle || n > 0 && l.Kind <= lost[n-1].Kind || l.Kind <= api.LName && l.N != 1 {
				t.Fatalf("Keep(%+v, %+v): %v", d, can, lost)
			}
		}
	}
	if whole < 1000 {
		t.Errorf("only %d lose nothing: the cues try too little", whole)
	}
}

// TestThereAndBack: P908: what Shift, Retime and Norm tell is right, and goes back.
func TestThereAndBack(t *testing.T) {
	m, there, back := newMaker(13), 0, 0
	for range 10000 {
		d, by := m.doc(5), m.ratio()
		if x, err := cue.Shift(d, by); err == nil {
			there++
			y, err := cue.Shift(x, r(-by.N, by.D))
			if cue.CheckDoc(x) != nil || err != nil || !sameDoc(y, d) {
				t.Fatalf("Shift(%+v, %v): %+v; and back: %+v, %v", d, by, x, y, err)
			}
		}
		n, err := cue.Norm(d)
		if err != nil || cue.CheckDoc(n) != nil || !cue.Same(n, d) {
			t.Fatalf("Norm(%+v): %+v, %v", d, n, err)
		}
		for _, way := range maps(t) {
			x, err := cue.Retime(d, way)
			if err != nil {
				continue
			}
			if cue.CheckDoc(x) != nil {
				t.Fatalf("Retime(%+v, %v): %+v", d, way.Knots(), x)
			}
			turned, e := way.Inverse()
			if e != api.OK {
				continue
			}
			if y, err := cue.Retime(x, turned); err == nil {
				back++
				if !sameDoc(y, d) {
					t.Fatalf("Retime(%+v, %v): %+v; and back: %+v", d, way.Knots(), x, y)
				}
			}
		}
	}
	if there < 1000 || back < 10000 {
		t.Errorf("only %d shifts and %d maps: the documents try too little", there, back)
	}
}

// anyCue is one of any numbers and bytes at all.
func (m maker) anyCue() api.Cue {
	number := func() int {
		if m.half() {
			return m.dice.IntN(9) - 1
		}
		return int(m.dice.Uint64()) >> m.dice.IntN(64)
	}
	x := api.Cue{Start: m.ratio(), End: m.ratio(), Lane: number(), Side: number(), Name: m.string(70, "n", "\n", "\xff"), Text: m.text()}
	for range m.dice.IntN(3) {
		x.Text.Spans = append(x.Text.Spans, api.Span{From: number(), To: number(), Kind: number(), Value: number()})
	}
	return x
}

// TestNothingPanics: P1: any numbers and bytes at all; P4: beside an error stands nothing.
func TestNothingPanics(t *testing.T) {
	m := newMaker(14)
	way := maps(t)[3]
	for range 20000 {
		var d api.Doc
		for range m.dice.IntN(4) {
			d.Cues = append(d.Cues, m.anyCue())
		}
		if m.half() {
			d = m.doc(3)
		}
		l := cue.Sort(d.Cues)
		if len(l) != len(d.Cues) || !sameDoc(cue.Twin(d), d) {
			t.Fatalf("Sort(%+v): %+v", d, l)
		}
		for _, x := range d.Cues {
			cue.Check(x)
			cue.Compare(x, d.Cues[0])
		}
		cue.Same(d, doc(l...))
		gather(cue.Active(d, m.ratio()))
		gather(cue.Within(d, m.ratio(), m.ratio()))
		can := m.can()
		can.Grid = m.ratio()
		kept, lost, err := cue.Keep(d, can)
		shifted, err2 := cue.Shift(d, m.ratio())
		gone, err3 := cue.Retime(d, way)
		norm, err4 := cue.Norm(d)
		if err != nil && len(kept.Cues)+len(lost) > 0 || err2 != nil && len(shifted.Cues) > 0 || err3 != nil && len(gone.Cues) > 0 || err4 != nil && len(norm.Cues) > 0 {
			t.Fatalf("%+v: something stands beside an error", d)
		}
	}
}

// TestMostOfAll: P1 of a document of as many cues as may be, each with as long a text.
func TestMostOfAll(t *testing.T) {
	long := strings.Repeat("\n\xc3", 2048)
	d := many(4096, at(r(1, 3), r(2, 3), long, b(0, 4096), i(1, 4000)))
	kept, lost, err := cue.Keep(d, all(api.DPipe, r(1, 1000)))
	if err != nil || len(kept.Cues) != 4096 || len(lost) != 2*4096 || cue.CheckDoc(kept) != nil {
		t.Errorf("%d cues, %d losses, %v", len(kept.Cues), len(lost), err)
	}
	if got := gather(cue.Active(d, r(1, 2))); len(got.numbers) != 4096 || !cue.Same(doc(got.cues...), d) {
		t.Errorf("%d cues", len(got.numbers))
	}
}

// inside tells whether a text lies in the memory of another one.
func inside(part, s string) bool {
	at, from := uintptr(unsafe.Pointer(unsafe.StringData(part))), uintptr(unsafe.Pointer(unsafe.StringData(s)))
	return part != "" && at >= from && at < from+uintptr(len(s))
}

// share tells whether two documents have memory in common.
func share(x, y api.Doc) bool {
	for n := range x.Cues {
		for k := range y.Cues {
			a, b := &x.Cues[n], &y.Cues[k]
			if a == b || inside(a.Name, b.Name) || inside(a.Text.S, b.Text.S) {
				return true
			}
			for p := range a.Text.Spans {
				for q := range b.Text.Spans {
					if &a.Text.Spans[p] == &b.Text.Spans[q] {
						return true
					}
				}
			}
		}
	}
	return false
}

// roomy is a right document with spare room behind its cues and their spans, and what lies there.
func roomy() (api.Doc, []api.Cue, []api.Span) {
	spans := []api.Span{i(2, 4), c(1, 0, 2), b(0, 4), b(9, 9), k(8, 8)}
	x := but(secs(1, 2, "a\nb\n"), func(x *api.Cue) { x.Name, x.Text.Spans = "Ann", spans[:3] })
	cues := []api.Cue{secs(0, 1, "first"), x, x, secs(7, 8, "spare"), secs(8, 9, "room")}
	return api.Doc{Cues: cues[:3]}, cues, spans
}

// answers are the documents that all calls make of one.
func answers(t *testing.T, d api.Doc) []api.Doc {
	t.Helper()
	shifted, err := cue.Shift(d, r(1, 2))
	gone, err2 := cue.Retime(d, maps(t)[2])
	norm, err3 := cue.Norm(d)
	if err != nil || err2 != nil || err3 != nil {
		t.Fatal(err, err2, err3)
	}
	l := []api.Doc{shifted, gone, norm, cue.Twin(d), doc(cue.Sort(d.Cues)...), doc(gather(cue.Active(d, r(3, 2))).cues...), doc(gather(cue.Within(d, whole(0), whole(9))).cues...)}
	for _, dialect := range dialects() {
		x, _, err := cue.Keep(d, all(dialect, whole(1)))
		y, _, err2 := cue.Keep(d, bare(dialect, r(2, 3)))
		if err != nil || err2 != nil {
			t.Fatal(err, err2)
		}
		l = append(l, x, y)
	}
	return l
}

// TestHandedIn: P2: nothing that is handed in is changed, its spare room neither.
func TestHandedIn(t *testing.T) {
	d, cues, spans := roomy()
	wasCues, wasSpans := cue.Twin(api.Doc{Cues: cues}), slices.Clone(spans)
	answers(t, d)
	cue.Same(d, d)
	turned := slices.Clone(cues)
	slices.Reverse(turned)
	was := slices.Clone(turned)
	cue.Sort(turned)
	if !sameDoc(api.Doc{Cues: cues}, wasCues) || !slices.Equal(spans, wasSpans) || !sameDoc(doc(turned...), doc(was...)) {
		t.Errorf("%+v was %+v", cues, wasCues)
	}
}

// TestAnswersAreNew: P2: what is answered shares no memory with what was handed in, and no two of its lists any.
func TestAnswersAreNew(t *testing.T) {
	d, cues, _ := roomy()
	d.Cues[1].Name, d.Cues[2].Name = strings.Repeat("n", 40), strings.Repeat("m", 40)
	for n, x := range answers(t, d) {
		if share(x, api.Doc{Cues: cues}) {
			t.Errorf("%d: it shares memory with what was handed in", n)
		}
		for k := range x.Cues {
			if share(doc(x.Cues[k]), doc(slices.Delete(slices.Clone(x.Cues), k, k+1)...)) {
				t.Errorf("%d: two of its cues share memory", n)
			}
		}
	}
}

// TestSequences: P6: a sequence goes over what it was made of as that was then, may be left early and be ranged over again, also within itself.
func TestSequences(t *testing.T) {
	d, cues, spans := roomy()
	was := cue.Twin(d)
	seqs := map[string]func(func(int, api.Cue) bool){"Active": cue.Active(d, whole(1)), "Within": cue.Within(d, whole(1), whole(2))}
	clear(cues)
	clear(spans)
	for what, seq := range seqs {
		holdTold(t, what, was, gather(seq), []int{1, 2})
		for n := range seq {
			if n != 1 {
				t.Errorf("%s: it began with %d", what, n)
			}
			break
		}
		for _, x := range seq {
			clear(x.Text.Spans)
			holdTold(t, what, was, gather(seq), []int{1, 2})
		}
		holdTold(t, what, was, gather(seq), []int{1, 2})
	}
}

// TestErrorsAreOwn: P5 and P8: two errors of the same call are apart, and a refused call changes nothing.
func TestErrorsAreOwn(t *testing.T) {
	d := doc(secs(1, 2, ""), secs(0, 1, ""))
	err := cue.CheckDoc(d)
	err.(*cue.Wrong).Cue = 77
	if err := cue.CheckDoc(d); !(fault{1, api.ErrOrder}).is(err) {
		t.Error(err)
	}
	if _, err := cue.Norm(d); !(fault{1, api.ErrOrder}).is(err) {
		t.Error(err)
	}
}

// TestMakerTries: what is made by chance has looks, names and cues of the same times.
func TestMakerTries(t *testing.T) {
	m, looks, names, same := newMaker(15), 0, 0, 0
	for range 1000 {
		d := m.doc(5)
		for n, x := range d.Cues {
			if runs, _ := style.Runs(x.Text); len(runs) > 1 {
				looks++
			}
			if x.Name != "" {
				names++
			}
			if n > 0 && cue.Compare(d.Cues[n-1], x) == 0 {
				same++
			}
		}
	}
	if looks < 300 || names < 300 || same < 100 {
		t.Errorf("%d, %d, %d", looks, names, same)
	}
}
