package speed_test

import (
	"slices"
	"strings"
	"testing"
	"unsafe"

	"surtitle/api"
	"surtitle/cue"
	"surtitle/speed"
)

// fitted is a document, its rules and what Fit tells of it.
type fitted struct {
	d, x  api.Doc
	rules speed.Rules
	fast  []speed.Fast
}

// manyFitted goes over many that Fit tells.
func manyFitted(seed uint64, yield func(f fitted)) {
	m := newMaker(seed)
	for range 6000 {
		ds := tame()
		if m.half() {
			ds = wild()
		}
		d, rules := m.doc(8, ds), m.rules(ds)
		if x, fast, err := speed.Fit(d, rules); err == nil {
			yield(fitted{d, x, rules, fast})
		}
	}
}

// origins tells the number in d of each cue of what Fit made of it: cues of the same rest, in their order, each with an End that is not below.
func (f fitted) origins(t *testing.T) []int {
	t.Helper()
	var l []int
	for _, x := range f.x.Cues {
		from := slices.IndexFunc(f.d.Cues, func(y api.Cue) bool {
			end, _ := endWords(f.d, slices.IndexFunc(f.d.Cues, func(z api.Cue) bool { return sameCue(y, z) }), f.rules)
			y.End = end
			return sameCue(x, y)
		})
		if from < 0 {
			t.Fatalf("Fit(%+v, %v): %+v is none of its cues", f.d, f.rules, x)
		}
		l = append(l, from)
	}
	return l
}

// overlap: W9.
func overlap(x, y api.Cue) bool {
	return above(rat(x.End), rat(y.Start)) && above(rat(y.End), rat(x.Start))
}

// TestFitIsRight: P1106 (T1): right, the same cues but for their Ends, none of which is below what it was; and again the same.
func TestFitIsRight(t *testing.T) {
	n := 0
	manyFitted(5, func(f fitted) {
		n++
		if err := cue.CheckDoc(f.x); err != nil || len(f.x.Cues) != len(f.d.Cues) {
			t.Fatalf("Fit(%+v, %v): %+v: %v", f.d, f.rules, f.x, err)
		}
		for k, from := range f.origins(t) {
			x, y := f.x.Cues[k], f.d.Cues[from]
			if above(rat(y.End), rat(x.End)) {
				t.Fatalf("Fit(%+v, %v): %+v was %+v", f.d, f.rules, x, y)
			}
			y.End = x.End
			if !sameCue(x, y) {
				t.Fatalf("Fit(%+v, %v): %+v was %+v", f.d, f.rules, x, y)
			}
		}
		again, fast, err := speed.Fit(f.x, f.rules)
		if err != nil || !sameDoc(again, f.x) || !slices.Equal(fast, f.fast) {
			t.Fatalf("Fit(%+v, %v): %+v, %v; then %+v, %v, %v", f.d, f.rules, f.x, f.fast, again, fast, err)
		}
	})
	if n < 3000 {
		t.Errorf("only %d are told: the documents try too little", n)
	}
}

// TestFitOverlaps: P1106: no two cues of one Lane and Side overlap that did not.
func TestFitOverlaps(t *testing.T) {
	met := 0
	manyFitted(6, func(f fitted) {
		from := f.origins(t)
		for n, x := range f.x.Cues {
			for k, y := range f.x.Cues[:n] {
				if x.Lane != y.Lane || x.Side != y.Side || !overlap(x, y) || from[n] == from[k] {
					continue
				}
				met++
				if !overlap(f.d.Cues[from[n]], f.d.Cues[from[k]]) {
					t.Fatalf("Fit(%+v, %v): %+v: %d and %d overlap", f.d, f.rules, f.x, k, n)
				}
			}
		}
	})
	if met < 1000 {
		t.Errorf("only %d overlap: the documents try too little", met)
	}
}

// TestFitNames: P1107: a cue that the list names ends at its limit or later; one that it does not name is seen as long as it wants.
func TestFitNames(t *testing.T) {
	named, quiet := 0, 0
	manyFitted(7, func(f fitted) {
		from := f.origins(t)
		for n, x := range f.x.Cues {
			wants, e := speed.Wants(x.Text, f.rules)
			isNamed := slices.ContainsFunc(f.fast, func(y speed.Fast) bool { return y.Cue == n })
			long := e == api.OK && !above(rat(wants), less(rat(x.End), rat(x.Start)))
			if isNamed == long || isNamed && above(limitWords(f.d, from[n], f.rules.Gap), rat(x.End)) {
				t.Fatalf("Fit(%+v, %v): %+v, %v: %d", f.d, f.rules, f.x, f.fast, n)
			}
			if isNamed {
				named++
			} else {
				quiet++
			}
		}
	})
	if named < 2000 || quiet < 2000 {
		t.Errorf("%d are named, %d are not: the documents try too little", named, quiet)
	}
}

// TestLooserRules: P1107: with greater Signs, or a lesser Least, Look names no more cues.
func TestLooserRules(t *testing.T) {
	m, fewer := newMaker(8), 0
	for range 10000 {
		d, strict := m.doc(8, tame()), m.rules(tame())
		loose := strict
		if other := m.rules(tame()); m.half() && above(rat(other.Signs), rat(strict.Signs)) {
			loose.Signs = other.Signs
		} else if above(rat(strict.Least), rat(other.Least)) {
			loose.Least = other.Least
		}
		more, err := speed.Look(d, strict)
		less, err2 := speed.Look(d, loose)
		if err != nil || err2 != nil {
			t.Fatal(err, err2)
		}
		if len(less) < len(more) {
			fewer++
		}
		for _, x := range less {
			if !slices.ContainsFunc(more, func(y speed.Fast) bool { return y.Cue == x.Cue && !above(rat(x.Lacks), rat(y.Lacks)) }) {
				t.Fatalf("%+v: %v by %v; %v by %v", d, more, strict, less, loose)
			}
		}
	}
	if fewer < 1000 {
		t.Errorf("only %d times fewer: the rules try too little", fewer)
	}
}

// TestNothingPanics: P1: any numbers and bytes at all; P4: beside an error stands nothing.
func TestNothingPanics(t *testing.T) {
	m := newMaker(9)
	number := func() int { return int(m.dice.Uint64()) >> m.dice.IntN(64) }
	for range 20000 {
		var d api.Doc
		for range m.dice.IntN(4) {
			x := api.Cue{Start: m.ratio(), End: m.ratio(), Lane: number(), Side: number(), Text: m.text()}
			for range m.dice.IntN(2) {
				x.Text.Spans = append(x.Text.Spans, api.Span{From: number(), To: number(), Kind: number(), Value: number()})
			}
			d.Cues = append(d.Cues, x)
		}
		if m.half() {
			d = m.doc(4, wild())
		}
		rules := speed.Rules{Signs: m.ratio(), Least: m.ratio(), Gap: m.ratio()}
		if m.one(4) {
			rules = m.rules(wild())
			rules.Signs = r(1+m.dice.Int64N(1<<40)>>m.dice.IntN(40), 1)
		}
		for _, x := range d.Cues {
			if n, e := speed.Wants(x.Text, rules); e != api.OK && n != (api.Ratio{}) || speed.Count(x.Text) < 0 {
				t.Fatalf("Wants(%+v, %v): %v, %v", x.Text, rules, n, e)
			}
		}
		fast, err := speed.Look(d, rules)
		x, l, err2 := speed.Fit(d, rules)
		mean, err3 := speed.Mean(d)
		if err != nil && len(fast) > 0 || err2 != nil && len(x.Cues)+len(l) > 0 || err3 != nil && mean != 0 {
			t.Fatalf("%+v, %v: something stands beside an error", d, rules)
		}
	}
}

// TestMostOfAll: P1 of a document of as many cues as may be, each with as long a text, none of them with a next one.
func TestMostOfAll(t *testing.T) {
	long := strings.Repeat("a", 4096)
	var d api.Doc
	for n := range int64(4096) {
		d.Cues = append(d.Cues, in(int(n/512), 0, at(whole(n), whole(n+1), long)))
	}
	x, fast, err := speed.Fit(d, by(whole(1), whole(0), whole(0)))
	if err != nil || len(x.Cues) != 4096 || len(fast) != 4096-8 || cue.CheckDoc(x) != nil {
		t.Errorf("%d cues, %d of them fast, %v", len(x.Cues), len(fast), err)
	}
	if mean, err := speed.Mean(d); mean != 4096 || err != nil {
		t.Error(mean, err)
	}
}

// inside tells whether a text lies in the memory of another one.
func inside(part, s string) bool {
	at, from := uintptr(unsafe.Pointer(unsafe.StringData(part))), uintptr(unsafe.Pointer(unsafe.StringData(s)))
	return part != "" && at >= from && at < from+uintptr(len(s))
}

// share tells whether two cues have memory in common.
func share(x, y api.Cue) bool {
	for p := range x.Text.Spans {
		for q := range y.Text.Spans {
			if &x.Text.Spans[p] == &y.Text.Spans[q] {
				return true
			}
		}
	}
	return inside(x.Name, y.Name) || inside(x.Text.S, y.Text.S)
}

// TestHandedIn: P2: nothing that is handed in is changed, its spare room neither; what is answered is new memory.
func TestHandedIn(t *testing.T) {
	spans := []api.Span{{From: 0, To: 3, Kind: api.KBold}, {From: 9, To: 9}, {From: 8, To: 8}}
	x := api.Cue{Start: whole(0), End: r(1, 4), Name: strings.Repeat("n", 40), Text: api.Text{S: strings.Repeat("text ", 9), Spans: spans[:1]}}
	cues := []api.Cue{x, in(1, 0, x), in(2, 0, at(whole(0), whole(9), "c")), at(whole(7), whole(8), "spare"), at(whole(9), whole(7), "room")}
	d := api.Doc{Cues: cues[:3]}
	wasCues, wasSpans := cue.Twin(api.Doc{Cues: cues}), slices.Clone(spans)
	for _, rules := range []speed.Rules{usual(), by(whole(10000), whole(0), whole(0))} {
		fast, err := speed.Look(d, rules)
		y, l, err2 := speed.Fit(d, rules)
		_, err3 := speed.Mean(d)
		if err != nil || err2 != nil || err3 != nil {
			t.Fatal(err, err2, err3)
		}
		for n := range y.Cues {
			for k := range cues {
				if &y.Cues[n] == &cues[k] || share(y.Cues[n], cues[k]) || n != k && k < 3 && share(y.Cues[n], y.Cues[k]) {
					t.Errorf("%d shares memory with %d", n, k)
				}
			}
			y.Cues[n].Text.Spans = append(y.Cues[n].Text.Spans, api.Span{})
			clear(y.Cues[n].Text.Spans)
		}
		clear(append(y.Cues, api.Cue{}))
		clear(append(fast, speed.Fast{}))
		clear(append(l, speed.Fast{}))
	}
	if !sameDoc(api.Doc{Cues: cues}, wasCues) || !slices.Equal(spans, wasSpans) {
		t.Errorf("%+v was %+v", cues, wasCues)
	}
}

// TestAgain: P3 and P5: the same calls answer the same, an error's own number told anew.
func TestAgain(t *testing.T) {
	d := doc(at(whole(0), whole(1), ""), at(whole(0), whole(1), "a"))
	rules := by(whole(2000003), whole(0), whole(0))
	for range 3 {
		_, err := speed.Look(d, rules)
		_, _, err2 := speed.Fit(d, rules)
		if want := (fault{1, api.ErrWide}); !want.is(err) || !want.is(err2) {
			t.Fatal(err, err2)
		}
		*err.(*cue.Wrong), *err2.(*cue.Wrong) = cue.Wrong{}, cue.Wrong{}
	}
}
