package lane_test

import (
	"slices"
	"strings"
	"testing"
	"unsafe"

	"surtitle/api"
	"surtitle/cue"
	"surtitle/lane"
)

// mostOfSide tells how many cues of one side are active at one time, at most: it is so at some cue's Start.
func mostOfSide(d api.Doc) int {
	most := 0
	for _, x := range d.Cues {
		many := [2]int{}
		for _, y := range cue.Active(d, x.Start) {
			many[y.Side]++
		}
		most = max(most, many[api.Low], many[api.High])
	}
	return most
}

// TestLanesAreApart: P1304 (T9): no two cues of one side that overlap have the same number, and there are no more numbers than needs be.
func TestLanesAreApart(t *testing.T) {
	m, deep := newMaker(5), 0
	for range 3000 {
		d := m.doc(15)
		l, many, err := lane.Lanes(d)
		if err != nil || len(l) != len(d.Cues) || many != mostOfSide(d) {
			t.Fatalf("Lanes(%+v): %v, %d, %v; %d are active at most", d, l, many, err, mostOfSide(d))
		}
		for i, x := range d.Cues {
			for k, y := range d.Cues[:i] {
				if x.Side == y.Side && overlap(x, y) && l[i] == l[k] {
					t.Fatalf("Lanes(%+v): %v: %d and %d", d, l, k, i)
				}
			}
			if l[i] < 0 || l[i] >= many {
				t.Fatalf("Lanes(%+v): %v, %d", d, l, many)
			}
		}
		if many > 3 {
			deep++
		}
	}
	if deep < 300 {
		t.Errorf("only %d have many lanes: the documents try too little", deep)
	}
}

// TestLayTwice: P1304 (T1): what Lay tells is right, and Lay of it is the same; whatever lanes a document has.
func TestLayTwice(t *testing.T) {
	m := newMaker(6)
	for range 3000 {
		d := m.doc(12)
		x, err := lane.Lay(d)
		if err != nil {
			continue
		}
		y, err := lane.Lay(x)
		if err != nil || cue.CheckDoc(x) != nil || !sameDoc(x, y) {
			t.Fatalf("Lay(%+v): %+v; then %+v, %v", d, x, y, err)
		}
		for i := range d.Cues {
			d.Cues[i].Lane = m.dice.IntN(8)
		}
		if y, err = lane.Lay(d); err != nil || !sameDoc(x, y) {
			t.Fatalf("Lay(%+v): %+v, %v; want %+v", d, y, err, x)
		}
	}
}

// TestRowsAreApart: P1305: no two cues that overlap share a row; all rows lie on the screen; one alone stands at its edge.
func TestRowsAreApart(t *testing.T) {
	m, met := newMaker(7), 0
	for range 5000 {
		d := m.doc(12)
		rows, width := 1+m.dice.IntN(30), 2+m.dice.IntN(12)
		l, err := lane.Rows(d, rows, width)
		if err != nil {
			continue
		}
		if len(l) != len(d.Cues) {
			t.Fatalf("Rows(%+v, %d, %d): %v", d, rows, width, l)
		}
		for i, p := range l {
			if p.Row < 0 || p.Rows < 1 || p.Row+p.Rows > rows {
				t.Fatalf("Rows(%+v, %d, %d): %v", d, rows, width, l)
			}
			for k, q := range l[:i] {
				if overlap(d.Cues[i], d.Cues[k]) {
					met++
					if p.Row < q.Row+q.Rows && q.Row < p.Row+p.Rows {
						t.Fatalf("Rows(%+v, %d, %d): %v: %d and %d", d, rows, width, l, k, i)
					}
				}
			}
			alone, err := lane.Rows(doc(d.Cues[i]), rows, width)
			want := lane.Place{Row: 0, Rows: p.Rows}
			if d.Cues[i].Side == api.Low {
				want.Row = rows - p.Rows
			}
			if err != nil || !slices.Equal(alone, []lane.Place{want}) {
				t.Fatalf("Rows(%+v, %d, %d): %v, %v; want %v", d.Cues[i], rows, width, alone, err, want)
			}
		}
	}
	if met < 3000 {
		t.Errorf("only %d overlap: the documents try too little", met)
	}
}

// TestNothingPanics: P1: any numbers and bytes at all; P4: beside an error stands nothing.
func TestNothingPanics(t *testing.T) {
	m := newMaker(8)
	number := func() int { return int(m.dice.Uint64()) >> m.dice.IntN(64) }
	for range 20000 {
		var d api.Doc
		for range m.dice.IntN(4) {
			x := api.Cue{Start: m.ratio(), End: m.ratio(), Lane: number(), Side: number(), Text: m.text()}
			for range m.dice.IntN(2) {
				x.Text.Spans = append(x.Text.Spans, api.Span{From: number(), To: number(), Kind: number(), Value: number()})
			}
			d.Cues = append(d.Cues, x)
		}
		if m.half() {
			d = m.doc(12)
			m.spoil(d)
		}
		l, many, err := lane.Lanes(d)
		x, err2 := lane.Lay(d)
		places, err3 := lane.Rows(d, number(), number())
		if err != nil && (len(l) > 0 || many != 0) || err2 != nil && len(x.Cues) > 0 || err3 != nil && len(places) > 0 {
			t.Fatalf("%+v: something stands beside an error", d)
		}
	}
}

// TestMostOfAll: P1 and P1301 to P1303 of as many cues as may be, all active at one time, or one behind the other, of great texts.
func TestMostOfAll(t *testing.T) {
	const n = api.MaxCues
	var together, apart api.Doc
	for k := range int64(n) {
		together.Cues = append(together.Cues, low(k, n+k+1, ""))
		apart.Cues = append(apart.Cues, low(k, k+1, strings.Repeat("xy ", 1365)))
	}
	l, many, err := lane.Lanes(together)
	if err != nil || many != n || !slices.Equal(l, count(n)) {
		t.Error(len(l), many, err)
	}
	if _, err := lane.Lay(together); !(fault{8, api.ErrFull}).is(err) {
		t.Error(err)
	}
	if _, err := lane.Rows(together, 100, 2); !(fault{100, api.ErrFull}).is(err) {
		t.Error(err)
	}
	places, err := lane.Rows(apart, 100, 200)
	if err != nil || len(places) != n || places[n-1] != (lane.Place{Row: 79, Rows: 21}) {
		t.Error(len(places), err, places[n-1:])
	}
	if x, err := lane.Lay(apart); err != nil || !sameDoc(x, apart) {
		t.Error(err)
	}
}

// inside tells whether a text lies in the memory of another one.
func inside(part, s string) bool {
	at, from := uintptr(unsafe.Pointer(unsafe.StringData(part))), uintptr(unsafe.Pointer(unsafe.StringData(s)))
	return part != "" && at >= from && at < from+uintptr(len(s))
}

// shareList tells whether two lists have memory in common, spare room and all.
func shareList[T any](x, y []T) bool {
	x, y = x[:cap(x)], y[:cap(y)]
	for p := range x {
		for q := range y {
			if &x[p] == &y[q] {
				return true
			}
		}
	}
	return false
}

// share tells whether two cues have memory in common.
func share(x, y api.Cue) bool {
	return shareList(x.Text.Spans, y.Text.Spans) || inside(x.Name, y.Name) || inside(x.Text.S, y.Text.S)
}

// TestHandedIn: P2: nothing that is handed in is changed, its spare room neither; what is answered is new memory.
func TestHandedIn(t *testing.T) {
	spans := []api.Span{{From: 0, To: 3, Kind: api.KBold}, {From: 9, To: 9}, {From: 8, To: 8}}
	x := api.Cue{Start: whole(0), End: whole(5), Lane: 3, Name: strings.Repeat("n", 40), Text: api.Text{S: strings.Repeat("text ", 9), Spans: spans[:1]}}
	cues := []api.Cue{x, x, x, low(7, 8, "spare"), low(9, 7, "room")}
	d := api.Doc{Cues: cues[:3]}
	wasCues, wasSpans := cue.Twin(api.Doc{Cues: cues}), slices.Clone(spans)
	got, err := lane.Lay(d)
	_, _, err2 := lane.Lanes(d)
	_, err3 := lane.Rows(d, 20, 9)
	if err != nil || err2 != nil || err3 != nil {
		t.Fatal(err, err2, err3)
	}
	if shareList(got.Cues, cues) {
		t.Error("cues share memory")
	}
	for n, p := range got.Cues {
		for k, q := range got.Cues {
			if n != k && share(p, q) {
				t.Errorf("%d shares memory with %d", n, k)
			}
		}
		for _, q := range cues {
			if share(p, q) {
				t.Errorf("%d shares memory with one handed in", n)
			}
		}
		clear(append(p.Text.Spans, api.Span{}))
	}
	clear(append(got.Cues, api.Cue{}))
	if !sameDoc(api.Doc{Cues: cues}, wasCues) || !slices.Equal(spans, wasSpans) {
		t.Errorf("%+v was %+v", cues, wasCues)
	}
}

// TestAgain: P2, P3 and P5: the same calls answer the same, whatever is done to an answer.
func TestAgain(t *testing.T) {
	full, d := times(9, low(0, 1, "")), times(3, high(0, 1, ""))
	for range 3 {
		_, err := lane.Lay(full)
		_, err2 := lane.Rows(full, 5, 9)
		_, err3 := lane.Rows(full, 0, 9)
		if !(fault{8, api.ErrFull}).is(err) || !(fault{5, api.ErrFull}).is(err2) || !(fault{0, api.ErrArg}).is(err3) {
			t.Fatal(err, err2, err3)
		}
		*err.(*cue.Wrong), *err2.(*cue.Wrong), *err3.(*cue.Wrong) = cue.Wrong{}, cue.Wrong{}, cue.Wrong{}
		l, many, err := lane.Lanes(d)
		places, err2 := lane.Rows(d, 5, 9)
		if err != nil || err2 != nil || many != 3 || !slices.Equal(l, count(3)) || !slices.Equal(places, []lane.Place{{0, 1}, {1, 1}, {2, 1}}) {
			t.Fatal(l, many, err, places, err2)
		}
		clear(l[:cap(l)])
		clear(places[:cap(places)])
	}
}
