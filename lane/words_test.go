package lane_test

import (
	"math/big"
	"math/rand/v2"
	"slices"
	"strings"
	"testing"

	"surtitle/api"
	"surtitle/cue"
	"surtitle/lane"
	"surtitle/wrap"
)

// What stands here says the chapter's words by big fractions and by looking at all cues ahead of each, slowly, to hold the program against.

func rat(x api.Ratio) *big.Rat { return big.NewRat(x.N, x.D) }

func above(x, y api.Ratio) bool { return rat(x).Cmp(rat(y)) > 0 }

// isActive: W9.
func isActive(x api.Cue, t api.Ratio) bool { return !above(x.Start, t) && above(x.End, t) }

// overlap: W9: both are active at some time.
func overlap(x, y api.Cue) bool { return above(x.End, y.Start) && above(y.End, x.Start) }

// lanesWords: P1301 of a right document.
func lanesWords(d api.Doc) ([]int, int) {
	var numbers []int
	unlike := map[int]bool{}
	for i, x := range d.Cues {
		has := map[int]bool{}
		for k, y := range d.Cues[:i] {
			if y.Side == x.Side && isActive(y, x.Start) {
				has[numbers[k]] = true
			}
		}
		n := 0
		for has[n] {
			n++
		}
		numbers = append(numbers, n)
		unlike[n] = true
	}
	return numbers, len(unlike)
}

// layWords: P1302 of a right document.
func layWords(d api.Doc) (api.Doc, fault) {
	numbers, _ := lanesWords(d)
	x := cue.Twin(d)
	for i, n := range numbers {
		if n >= 8 {
			return api.Doc{}, fault{i, api.ErrFull}
		}
		x.Cues[i].Lane = n
	}
	return x, fault{}
}

// rowsWords: P1303 of a right document.
func rowsWords(d api.Doc, rows, width int) ([]lane.Place, fault) {
	if rows < 1 || rows > 100 || width < 2 || width > 200 {
		return nil, fault{0, api.ErrArg}
	}
	var l []lane.Place
	for i, x := range d.Cues {
		breaks, _, _ := wrap.Wrap(x.Text.S, width)
		need := len(breaks) + 1
		var tops []int
		for top := 0; top+need <= rows; top++ {
			if freeWords(d, l, i, top, need) {
				tops = append(tops, top)
			}
		}
		if len(tops) == 0 {
			return nil, fault{i, api.ErrFull}
		}
		if x.Side == api.Low {
			l = append(l, lane.Place{Row: slices.Max(tops), Rows: need})
		} else {
			l = append(l, lane.Place{Row: slices.Min(tops), Rows: need})
		}
	}
	return l, fault{}
}

// freeWords: no cue ahead has one of these rows that is active at some time at which this one is.
func freeWords(d api.Doc, l []lane.Place, i, top, need int) bool {
	for k, p := range l {
		if overlap(d.Cues[k], d.Cues[i]) && p.Row < top+need && top < p.Row+p.Rows {
			return false
		}
	}
	return true
}

// maker makes things by chance, the same each time.
type maker struct{ dice *rand.Rand }

func newMaker(seed uint64) maker { return maker{rand.New(rand.NewPCG(seed, 13))} }

func (m maker) half() bool { return m.dice.IntN(2) == 0 }

// one tells whether it comes to that: once in so many.
func (m maker) one(in int) bool { return m.dice.IntN(in) == 0 }

// pick is one of some.
func pick[T any](m maker, l ...T) T { return l[m.dice.IntN(len(l))] }

// text is a right one of some lines.
func (m maker) text() api.Text {
	x := api.Text{}
	for range m.dice.IntN(8) {
		x.S += pick(m, "a", "bc", " ", " ", "é", "\n", "中", "\U0001f600", "\xc3", "\xff", "\x00")
	}
	if n := len([]rune(x.S)); n > 0 && m.half() {
		x.Spans = []api.Span{{From: 0, To: n, Kind: api.KColour, Value: m.dice.IntN(3)}}
	}
	return x
}

// time is one of few, so that many fall together.
func (m maker) time() api.Ratio {
	d := pick[int64](m, 1, 1, 1, 2, 1001, 1<<20, 1<<20-1)
	n := m.dice.Int64N(8*d + 1)
	if m.one(12) {
		n = 360000*d - n
	}
	x := big.NewRat(n, d)
	return r(x.Num().Int64(), x.Denom().Int64())
}

// cue is a right one.
func (m maker) cue() api.Cue {
	x := api.Cue{Start: m.time(), End: m.time(), Lane: m.dice.IntN(8), Side: m.dice.IntN(2), Name: pick(m, "", "Ann", "Bob"), Text: m.text()}
	if above(x.Start, x.End) {
		x.Start, x.End = x.End, x.Start
	}
	switch {
	case x.Start != x.End:
	case x.Start == whole(0):
		x.End = whole(1)
	default:
		x.Start = whole(0)
	}
	return x
}

// doc is a right one of up to so many cues.
func (m maker) doc(many int) api.Doc {
	var l []api.Cue
	for range m.dice.IntN(many + 1) {
		l = append(l, m.cue())
	}
	return doc(cue.Sort(l)...)
}

// ratio is any one, right or not.
func (m maker) ratio() api.Ratio {
	if m.half() {
		return r(m.dice.Int64N(9)-4, m.dice.Int64N(9)-2)
	}
	return r(int64(m.dice.Uint64())>>m.dice.IntN(64), int64(m.dice.Uint64())>>m.dice.IntN(64))
}

// spoil makes something of a document wrong, or great.
func (m maker) spoil(d api.Doc) {
	if len(d.Cues) == 0 {
		return
	}
	x := &d.Cues[m.dice.IntN(len(d.Cues))]
	switch m.dice.IntN(8) {
	case 0:
		x.Start = m.ratio()
	case 1:
		x.End = m.ratio()
	case 2:
		x.Lane = m.dice.IntN(14) - 3
	case 3:
		x.Side = m.dice.IntN(7) - 3
	case 4:
		x.Name = "\n"
	case 5:
		x.Text.Spans = []api.Span{{From: 0, To: m.dice.IntN(9), Kind: 1}}
	case 6:
		slices.Reverse(d.Cues)
	default:
		x.Text = api.Text{S: strings.Repeat(pick(m, "x", "x ", "x\n"), 2000)}
	}
}

// holdWords complains if a call does otherwise than the words; it tells the errors of Lay and Rows.
func holdWords(t *testing.T, d api.Doc, rows, width int) [2]api.Errno {
	t.Helper()
	numbers, many, err := lane.Lanes(d)
	wantNumbers, wantMany := lanesWords(d)
	if err != nil || many != wantMany || !slices.Equal(numbers, wantNumbers) {
		t.Fatalf("Lanes(%+v): %v, %d, %v; want %v, %d", d, numbers, many, err, wantNumbers, wantMany)
	}
	x, err := lane.Lay(d)
	want, lay := layWords(d)
	if !lay.is(err) || !sameDoc(x, want) {
		t.Fatalf("Lay(%+v): %+v, %v; want %+v, %v", d, x, err, want, lay)
	}
	places, err := lane.Rows(d, rows, width)
	wantPlaces, f := rowsWords(d, rows, width)
	if !f.is(err) || !slices.Equal(places, wantPlaces) {
		t.Fatalf("Rows(%+v, %d, %d): %v, %v; want %v, %v", d, rows, width, places, err, wantPlaces, f)
	}
	return [2]api.Errno{lay.e, f.e}
}

// holdWrong complains if a call tells anything but CheckDoc's error of a document that is not right.
func holdWrong(t *testing.T, d api.Doc) {
	t.Helper()
	w, ok := cue.CheckDoc(d).(*cue.Wrong)
	if !ok {
		t.Fatalf("%+v is right", d)
	}
	f := fault{w.Cue, w.Err}
	if l, n, err := lane.Lanes(d); !f.is(err) || len(l) > 0 || n != 0 {
		t.Fatalf("Lanes(%+v): %v, %v, %v; want %v", d, l, n, err, f)
	}
	if x, err := lane.Lay(d); !f.is(err) || len(x.Cues) > 0 {
		t.Fatalf("Lay(%+v): %v, %v; want %v", d, x, err, f)
	}
	for _, rows := range []int{-1, 0, 1, 100, 101} {
		for _, width := range []int{-1, 1, 2, 200, 201} {
			if l, err := lane.Rows(d, rows, width); !f.is(err) || len(l) > 0 {
				t.Fatalf("Rows(%+v, %d, %d): %v, %v; want %v", d, rows, width, l, err, f)
			}
		}
	}
}

// TestWords: P1301 to P1303 of right documents, few cues and many, by the words.
func TestWords(t *testing.T) {
	m, seen, met := newMaker(1), [2]map[api.Errno]int{{}, {}}, 0
	for range 8000 {
		d := m.doc(pick(m, 4, 9, 25))
		rows, width := m.dice.IntN(24)-1, pick(m, 1, 2, 3, 5, 40, 200, 201)
		for k, e := range holdWords(t, d, rows, width) {
			seen[k][e]++
			if k == 1 && e == api.OK && len(d.Cues) > 4 {
				met++
			}
		}
	}
	for k, l := range [][]api.Errno{{api.OK, api.ErrFull}, {api.OK, api.ErrArg, api.ErrFull}} {
		for _, e := range l {
			if seen[k][e] < 200 {
				t.Errorf("%d: %v only %d times: the documents try too little", k, e, seen[k][e])
			}
		}
	}
	if met < 300 {
		t.Errorf("only %d find their rows: the documents try too little", met)
	}
}

// TestWordsWrong: P1301 to P1303 of what may not be, or is great, by the words.
func TestWordsWrong(t *testing.T) {
	m, seen := newMaker(2), map[api.Errno]int{}
	for range 5000 {
		d := m.doc(6)
		m.spoil(d)
		if err := cue.CheckDoc(d); err != nil {
			seen[err.(*cue.Wrong).Err]++
			holdWrong(t, d)
			continue
		}
		holdWords(t, d, 1+m.dice.IntN(100), 2+m.dice.IntN(199))
	}
	for _, e := range []api.Errno{api.ErrWide, api.ErrBack, api.ErrLane, api.ErrName, api.ErrSpan, api.ErrOrder} {
		if seen[e] < 20 {
			t.Errorf("%v only %d times: the documents try too little", e, seen[e])
		}
	}
}

// TestWordsCrowd: P1301 to P1303 of documents of many cues, by the words.
func TestWordsCrowd(t *testing.T) {
	m := newMaker(3)
	for range 12 {
		holdWords(t, m.doc(160), 100, 10+m.dice.IntN(20))
	}
}
