package dual_test

import (
	"math/rand/v2"
	"slices"
	"strings"
	"testing"
	"unsafe"

	"surtitle/api"
	"surtitle/cue"
	"surtitle/dual"
)

// TestThereAndApart: P1904 (T10) and P1905 (T1): what is merged is right, and can be taken apart; cues that were set are active just when their pairs are.
func TestThereAndApart(t *testing.T) {
	m, met := newMaker(11), 0
	for range 8000 {
		a, b := m.two(pick(m, 4, 12, 40))
		row, err := dual.Pairs(a, b)
		d, err2 := dual.Merge(a, b)
		if err != nil || err2 != nil || cue.CheckDoc(d) != nil {
			t.Fatalf("Merge(%+v, %+v): %+v, %v, %v", a, b, d, err, err2)
		}
		ours, theirs, err := dual.Apart(d)
		if err != nil || !sameDoc(ours, a) || cue.CheckDoc(theirs) != nil || len(theirs.Cues) != len(b.Cues) {
			t.Fatalf("Merge(%+v, %+v): %+v; apart: %+v, %+v, %v", a, b, d, ours, theirs, err)
		}
		want, set := setWords(a, b, row)
		if !sameDoc(theirs, want) {
			t.Fatalf("Merge(%+v, %+v): %+v; want %+v", a, b, theirs, want)
		}
		for i, x := range theirs.Cues {
			pair, is := set[i]
			if is && (x.Start != a.Cues[pair].Start || x.End != a.Cues[pair].End) {
				t.Fatalf("Merge(%+v, %+v): %d is set to %+v", a, b, i, x)
			}
			x.Start, x.End = b.Cues[i].Start, b.Cues[i].End
			if is && !sameCue(x, b.Cues[i]) || !is && !sameCue(theirs.Cues[i], b.Cues[i]) {
				t.Fatalf("Merge(%+v, %+v): %d is %+v", a, b, i, theirs.Cues[i])
			}
		}
		met += len(set)
	}
	if met < 8000 {
		t.Errorf("only %d are set: the documents try too little", met)
	}
}

// TestEitherWay: P1906: Pairs of b and a share as much, and are as many, as those of a and b.
func TestEitherWay(t *testing.T) {
	m := newMaker(12)
	for range 4000 {
		a, b := m.two(pick(m, 4, 12, 40))
		x, err := dual.Pairs(a, b)
		y, err2 := dual.Pairs(b, a)
		if err != nil || err2 != nil || len(x) != len(y) || sumWords(a, b, x) != sumWords(b, a, y) {
			t.Fatalf("%+v, %+v: %v, %v; %v, %v", a, b, x, err, y, err2)
		}
	}
}

// TestLongRows: P1901 of many cues: of the sum, the number of pairs and the first row, told by a slow way that looks at every next pair.
func TestLongRows(t *testing.T) {
	m := newMaker(13)
	type state struct {
		sum int64
		row pairs
	}
	for range 60 {
		a, b := m.two(14)
		best := map[[2]int]state{}
		for i := len(a.Cues); i >= 0; i-- {
			for j := len(b.Cues); j >= 0; j-- {
				var s state
				for x := i; x < len(a.Cues); x++ {
					for y := j; y < len(b.Cues); y++ {
						n := shareWords(a.Cues[x], b.Cues[y])
						rest := best[[2]int{x + 1, y + 1}]
						if n > 0 && (n+rest.sum > s.sum || n+rest.sum == s.sum && len(rest.row)+1 > len(s.row)) {
							s = state{n + rest.sum, append(pairs{{x, y}}, rest.row...)}
						}
					}
				}
				best[[2]int{i, j}] = s
			}
		}
		want := best[[2]int{0, 0}].row
		if got, err := dual.Pairs(a, b); err != nil || !slices.Equal(got, want) {
			t.Fatalf("Pairs(%+v, %+v): %v, %v; want %v", a, b, got, err, want)
		}
	}
}

// TestNothingPanics: P1: any numbers and bytes at all; P4: beside an error stands nothing.
func TestNothingPanics(t *testing.T) {
	m := newMaker(14)
	number := func() int { return int(m.dice.Uint64()) >> m.dice.IntN(64) }
	anything := func() api.Doc {
		var d api.Doc
		for range m.dice.IntN(4) {
			x := api.Cue{Start: m.ratio(), End: m.ratio(), Lane: pick(m, 0, number()), Side: pick(m, 0, 1, number()), Text: m.text()}
			for range m.dice.IntN(2) {
				x.Text.Spans = append(x.Text.Spans, api.Span{From: number(), To: number(), Kind: number(), Value: number()})
			}
			d.Cues = append(d.Cues, x)
		}
		if m.half() {
			d = m.sides(m.doc(6, m.clock()))
		}
		if m.half() {
			m.spoil(d)
		}
		return d
	}
	for range 20000 {
		a, b := anything(), anything()
		for _, call := range calls() {
			if err := call(a, b); err != nil {
				if _, ok := err.(*cue.Wrong); !ok {
					t.Fatalf("%+v, %+v: %v", a, b, err)
				}
			}
		}
		if x, y, err := dual.Apart(a); err != nil && (len(x.Cues) > 0 || len(y.Cues) > 0) {
			t.Fatalf("%+v: something stands beside an error", a)
		}
	}
}

// TestMostOfAll: P1, P1901 and P1902 of as many cues as may be, one behind the other, and all at once.
func TestMostOfAll(t *testing.T) {
	const n = 1024
	var one, two api.Doc
	for k := range int64(n) {
		one.Cues = append(one.Cues, low(300*k, 300*k+200, ""))
		two.Cues = append(two.Cues, low(300*k+1, 300*k+199, strings.Repeat("x", 4096)))
	}
	for _, x := range []struct{ a, b api.Doc }{{one, two}, {times(n, low(0, 1, "")), times(n, low(0, api.MaxTime, ""))}} {
		row, err := dual.Pairs(x.a, x.b)
		if err != nil || len(row) != n {
			t.Fatal(len(row), err)
		}
		for k, p := range row {
			if p != [2]int{k, k} {
				t.Fatal(k, p)
			}
		}
	}
	d, err := dual.Merge(one, two)
	if err != nil || len(d.Cues) != 2*n || cue.CheckDoc(d) != nil {
		t.Fatal(len(d.Cues), err)
	}
	for k, x := range d.Cues {
		if at := int64(k / 2 * 300); x.Start != whole(at) || x.End != whole(at+200) || x.Side != k%2 {
			t.Fatal(k, x.Start, x.End, x.Side)
		}
	}
	// The greatest sum of all.
	long := times(3840, low(0, api.MaxTime, ""))
	if row, err := dual.Pairs(long, times(256, low(0, api.MaxTime, ""))); err != nil || len(row) != 256 || row[255] != [2]int{255, 255} {
		t.Error(len(row), err)
	}
	if a, b, err := dual.Apart(times(api.MaxCues, high(0, 1, ""))); err != nil || len(a.Cues) != 0 || len(b.Cues) != api.MaxCues {
		t.Error(len(a.Cues), len(b.Cues), err)
	}
}

// inside tells whether a text lies in the memory of another one.
func inside(part, s string) bool {
	at, from := uintptr(unsafe.Pointer(unsafe.StringData(part))), uintptr(unsafe.Pointer(unsafe.StringData(s)))
	return part != "" && at >= from && at < from+uintptr(len(s))
}

// shareList tells whether two lists have memory in common, spare room and all.
func shareList[T any](x, y []T) bool {
	x, y = x[:cap(x)], y[:cap(y)]
	for p := range x {
		for q := range y {
			if &x[p] == &y[q] {
				return true
			}
		}
	}
	return false
}

// shareMemory tells whether two cues have memory in common.
func shareMemory(x, y api.Cue) bool {
	return shareList(x.Text.Spans, y.Text.Spans) || inside(x.Name, y.Name) || inside(x.Text.S, y.Text.S)
}

// holdNew complains if an answer's cues have memory in common with one another, or with those handed in.
func holdNew(t *testing.T, what string, given []api.Cue, answered ...api.Doc) {
	t.Helper()
	var l []api.Cue
	for n, d := range answered {
		for _, other := range answered[:n] {
			if shareList(d.Cues, other.Cues) {
				t.Errorf("%s: two lists of an answer share memory", what)
			}
		}
		if shareList(d.Cues, given) {
			t.Errorf("%s: cues share memory with those handed in", what)
		}
		l = append(l, d.Cues...)
	}
	for n, x := range l {
		for _, y := range slices.Concat(l[:n], given) {
			if shareMemory(x, y) {
				t.Errorf("%s: %d shares memory", what, n)
			}
		}
	}
	for _, d := range answered {
		for _, x := range d.Cues {
			clear(append(x.Text.Spans, api.Span{}))
		}
		clear(append(d.Cues, api.Cue{}))
	}
}

// TestHandedIn: P2: nothing that is handed in is changed, its spare room neither; what is answered is new memory.
func TestHandedIn(t *testing.T) {
	spans := []api.Span{{From: 0, To: 3, Kind: api.KBold}, {From: 9, To: 9}, {From: 8, To: 8}}
	x := api.Cue{Start: whole(0), End: whole(5), Lane: 3, Name: strings.Repeat("n", 40), Text: api.Text{S: strings.Repeat("text ", 9), Spans: spans[:1]}}
	longer := but(x, func(x *api.Cue) { x.End = whole(6) })
	cues := []api.Cue{x, longer, longer, low(7, 8, "spare"), low(9, 7, "room")}
	both := []api.Cue{x, up(x), up(longer), low(7, 8, "spare"), low(9, 7, "room")}
	wasCues, wasBoth, wasSpans := cue.Twin(doc(cues...)), cue.Twin(doc(both...)), slices.Clone(spans)
	// The two documents are parts of one list, and overlap in it.
	d, err := dual.Merge(doc(cues[:2]...), doc(cues[1:3]...))
	a, b, err2 := dual.Apart(doc(both[:3]...))
	_, err3 := dual.Pairs(doc(cues[:3]...), doc(cues[:2]...))
	if err != nil || err2 != nil || err3 != nil || len(d.Cues) != 4 || len(a.Cues) != 1 || len(b.Cues) != 2 {
		t.Fatal(d, err, a, b, err2, err3)
	}
	holdNew(t, "Merge", cues, d)
	holdNew(t, "Apart", both, a, b)
	if !sameDoc(doc(cues...), wasCues) || !sameDoc(doc(both...), wasBoth) || !slices.Equal(spans, wasSpans) {
		t.Errorf("%+v was %+v", cues, wasCues)
	}
}

// TestAgain: P2, P3 and P5: the same calls answer the same, whatever is done to an answer, and in whatever order they come.
func TestAgain(t *testing.T) {
	a, b := secs(0, 2, 2, 4), secs(0, 1, 1, 4)
	dice := rand.New(rand.NewPCG(1, 1))
	for range 20 {
		switch dice.IntN(3) {
		case 0:
			_, err := dual.Merge(a, doc(high(0, 1, "")))
			if !(fault{0, api.ErrLane}).is(err) {
				t.Fatal(err)
			}
			*err.(*cue.Wrong) = cue.Wrong{}
		case 1:
			l, err := dual.Pairs(a, b)
			if err != nil || !slices.Equal(l, pairs{{0, 0}, {1, 1}}) {
				t.Fatal(l, err)
			}
			clear(l[:cap(l)])
		default:
			d, err := dual.Merge(a, b)
			if err != nil || !sameDoc(d, doc(low(0, 2, ""), high(0, 2, ""), low(2, 4, ""), high(2, 4, ""))) {
				t.Fatal(d, err)
			}
			clear(d.Cues[:cap(d.Cues)])
		}
	}
}
