package sweep_test

import (
	"math/big"
	"math/rand/v2"
	"slices"
	"strings"
	"testing"

	"surtitle/api"
	"surtitle/cue"
	"surtitle/style"
	"surtitle/sweep"
)

// What stands here says the chapter's words by big fractions and by looking at all cues at each mark, slowly, to hold the program against.

func rat(x api.Ratio) *big.Rat { return big.NewRat(x.N, x.D) }

func above(x, y api.Ratio) bool { return rat(x).Cmp(rat(y)) > 0 }

// fits: W4: the right ratio that an exact value is.
func fits(x *big.Rat) (api.Ratio, bool) {
	if !x.Denom().IsInt64() || x.Denom().Int64() > 1<<31 || x.Num().CmpAbs(big.NewInt(1<<62)) > 0 {
		return api.Ratio{}, false
	}
	return r(x.Num().Int64(), x.Denom().Int64()), true
}

// isActive: W9.
func isActive(x api.Cue, t api.Ratio) bool { return !above(x.Start, t) && above(x.End, t) }

// activeWords: the numbers of the cues that are active at a time.
func activeWords(d api.Doc, t api.Ratio) []int {
	var l []int
	for n, x := range d.Cues {
		if isActive(x, t) {
			l = append(l, n)
		}
	}
	return l
}

// marksWords: all Starts and Ends, rising, each once.
func marksWords(d api.Doc) []api.Ratio {
	var l []api.Ratio
	for _, x := range d.Cues {
		l = append(l, x.Start, x.End)
	}
	slices.SortFunc(l, func(x, y api.Ratio) int { return rat(x).Cmp(rat(y)) })
	return slices.Compact(l)
}

// segmentsWords: P1201 of a right document.
func segmentsWords(d api.Doc) []api.Seg {
	var l []api.Seg
	marks := marksWords(d)
	for n := 1; n < len(marks); n++ {
		if active := activeWords(d, marks[n-1]); len(active) > 0 {
			l = append(l, api.Seg{From: marks[n-1], To: marks[n], Cues: active})
		}
	}
	return l
}

// mostWords: P1201 of a right document.
func mostWords(d api.Doc) int {
	most := 0
	for _, t := range marksWords(d) {
		most = max(most, len(activeWords(d, t)))
	}
	return most
}

// coveredWords: P1201 of a right document: each length, and each sum on the way, must fit.
func coveredWords(d api.Doc) (api.Ratio, fault) {
	all := new(big.Rat)
	told := whole(0)
	for _, x := range segmentsWords(d) {
		long := new(big.Rat).Sub(rat(x.To), rat(x.From))
		_, ok := fits(long)
		all.Add(all, long)
		y, ok2 := fits(all)
		if !ok || !ok2 {
			return api.Ratio{}, fault{0, api.ErrWide}
		}
		told = y
	}
	return told, fault{}
}

// joinWords: texts behind one another, made normal.
func joinWords(d api.Doc, which []int) (api.Text, fault) {
	var all api.Text
	for k, n := range which {
		x := d.Cues[n].Text
		if k > 0 {
			all.S += "\n"
		}
		signs := len([]rune(all.S))
		all.S += x.S
		for _, y := range x.Spans {
			y.From += signs
			y.To += signs
			all.Spans = append(all.Spans, y)
		}
		if len(all.S) > 4096 {
			return api.Text{}, fault{n, api.ErrLong}
		}
		if len(all.Spans) > 256 {
			return api.Text{}, fault{n, api.ErrMany}
		}
	}
	x, e := style.Norm(all)
	if e != api.OK {
		return api.Text{}, fault{which[len(which)-1], e}
	}
	return x, fault{}
}

// trimWords: P1202 of a right document.
func trimWords(d api.Doc) (api.Doc, fault) {
	var l []api.Cue
	for n, x := range d.Cues {
		if n > 0 && d.Cues[n-1].Start == x.Start {
			continue
		}
		var which []int
		for k, y := range d.Cues {
			if y.Start == x.Start {
				which = append(which, k)
				x.End = y.End
			}
		}
		if len(which) > 1 {
			y, f := joinWords(d, which)
			if f.e != api.OK {
				return api.Doc{}, f
			}
			x.Text = y
		}
		l = append(l, x)
	}
	for n := range l {
		if n+1 < len(l) && above(l[n].End, l[n+1].Start) {
			l[n].End = l[n+1].Start
		}
	}
	return doc(l...), fault{}
}

// stackWords: P1203 of a right document.
func stackWords(d api.Doc) (api.Doc, fault) {
	segments := segmentsWords(d)
	if len(segments) > 4096 {
		return api.Doc{}, fault{0, api.ErrMany}
	}
	var l []api.Cue
	for _, s := range segments {
		x := api.Cue{Start: s.From, End: s.To, Side: d.Cues[s.Cues[0]].Side, Name: d.Cues[s.Cues[0]].Name}
		for _, n := range s.Cues {
			if d.Cues[n].Name != x.Name {
				x.Name = ""
			}
		}
		var f fault
		if x.Text, f = joinWords(d, s.Cues); f.e != api.OK {
			return api.Doc{}, f
		}
		l = append(l, x)
	}
	return doc(l...), fault{}
}

// overlap: W9: both are active at some time.
func overlap(x, y api.Cue) bool { return above(x.End, y.Start) && above(y.End, x.Start) }

// overlapsWords: P1204 of a right document.
func overlapsWords(d api.Doc, most int) ([][2]int, fault) {
	if most < 0 {
		return nil, fault{0, api.ErrArg}
	}
	var l [][2]int
	for n, x := range d.Cues {
		for k, y := range d.Cues {
			if n < k && overlap(x, y) && len(l) < most {
				l = append(l, [2]int{n, k})
			}
		}
	}
	return l, fault{}
}

// maker makes things by chance, the same each time.
type maker struct{ dice *rand.Rand }

func newMaker(seed uint64) maker { return maker{rand.New(rand.NewPCG(seed, 12))} }

func (m maker) half() bool { return m.dice.IntN(2) == 0 }

// one tells whether it comes to that: once in so many.
func (m maker) one(in int) bool { return m.dice.IntN(in) == 0 }

// pick is one of some.
func pick[T any](m maker, l ...T) T { return l[m.dice.IntN(len(l))] }

// text is a right one, its spans nested or apart, not always in normal form.
func (m maker) text() api.Text {
	x := api.Text{}
	for range m.dice.IntN(6) {
		x.S += pick(m, "a", "b", "é", "\n", "中", "\U0001f600", "\xc3", "\xa9", "\xff", "\x00")
	}
	n := len([]rune(x.S))
	for from, to := 0, n; from < to && m.half(); {
		x.Spans = append(x.Spans, api.Span{From: from, To: to, Kind: 1 + m.dice.IntN(4)})
		if m.half() {
			x.Spans = append(x.Spans, api.Span{From: from, To: to, Kind: api.KColour, Value: m.dice.IntN(3)})
		}
		from += m.dice.IntN(2)
		to -= m.dice.IntN(2)
	}
	return x
}

// great is a right text of many bytes, or of many spans, or one whose normal form has more of them.
func (m maker) great() api.Text {
	switch m.dice.IntN(4) {
	case 0:
		return api.Text{S: strings.Repeat("x", 4096-m.dice.IntN(12))}
	case 1:
		return api.Text{S: strings.Repeat("é", 600+m.dice.IntN(900))}
	case 2:
		return api.Text{S: "abc", Spans: heap(60 + m.dice.IntN(197))}
	}
	return comb(80 + m.dice.IntN(80))
}

// time is one of few, so that many fall together.
func (m maker) time(ds []int64) api.Ratio {
	d := pick(m, ds...)
	n := m.dice.Int64N(min(10*d+1, 1<<30))
	if m.one(12) {
		n = 360000*d - n
	}
	x, _ := fits(big.NewRat(n, d))
	return x
}

// tame and wild are the denominators of times whose sums fit, and may not fit.
func tame() []int64 { return []int64{1, 1, 1, 2, 3} }

func wild() []int64 { return []int64{1, 1, 2, 1000, 1001, 30000, 1 << 20, 1<<20 - 1} }

// cue is a right one.
func (m maker) cue(ds []int64) api.Cue {
	x := api.Cue{Start: m.time(ds), End: m.time(ds), Lane: m.dice.IntN(8), Side: m.dice.IntN(2), Name: pick(m, "", "Ann", "Ann", "Bob"), Text: m.text()}
	switch x.Start, x.End = least(x.Start, x.End), greatest(x.Start, x.End); {
	case x.Start != x.End:
	case x.Start == whole(0):
		x.End = whole(1)
	default:
		x.Start = whole(0)
	}
	return x
}

func least(x, y api.Ratio) api.Ratio {
	if above(x, y) {
		return y
	}
	return x
}

func greatest(x, y api.Ratio) api.Ratio {
	if above(x, y) {
		return x
	}
	return y
}

// doc is a right one of up to so many cues.
func (m maker) doc(many int, ds []int64) api.Doc {
	var l []api.Cue
	for range m.dice.IntN(many + 1) {
		l = append(l, m.cue(ds))
	}
	return doc(cue.Sort(l)...)
}

// spoil makes something of a document wrong, or great.
func (m maker) spoil(d api.Doc) {
	if len(d.Cues) == 0 {
		return
	}
	x := &d.Cues[m.dice.IntN(len(d.Cues))]
	switch m.dice.IntN(16) {
	case 0:
		x.Start = m.ratio()
	case 1:
		x.End = m.ratio()
	case 2:
		x.Lane = m.dice.IntN(14) - 3
	case 3:
		x.Name = "\n"
	case 4:
		x.Text.Spans = []api.Span{{From: 0, To: m.dice.IntN(9), Kind: 1}}
	case 5:
		slices.Reverse(d.Cues)
	default:
		for range 1 + m.dice.IntN(3) {
			d.Cues[m.dice.IntN(len(d.Cues))].Text = m.great()
		}
	}
}

// ratio is any one, right or not.
func (m maker) ratio() api.Ratio {
	if m.half() {
		return r(m.dice.Int64N(9)-4, m.dice.Int64N(9)-2)
	}
	return r(int64(m.dice.Uint64())>>m.dice.IntN(64), int64(m.dice.Uint64())>>m.dice.IntN(64))
}

// holdWords complains if a call does otherwise than the words; it tells the errors of Covered, Trim, Stack, Overlaps.
func holdWords(t *testing.T, d api.Doc, pairs int) [4]api.Errno {
	t.Helper()
	segments, err := sweep.Segments(d)
	if err != nil || !sameSegs(segments, segmentsWords(d)) {
		t.Fatalf("Segments(%+v): %v, %v; want %v", d, segments, err, segmentsWords(d))
	}
	most, err := sweep.Most(d)
	if err != nil || most != mostWords(d) {
		t.Fatalf("Most(%+v): %v, %v; want %v", d, most, err, mostWords(d))
	}
	long, err := sweep.Covered(d)
	wantLong, covered := coveredWords(d)
	if !covered.is(err) || long != wantLong {
		t.Fatalf("Covered(%+v): %v, %v; want %v, %v", d, long, err, wantLong, covered)
	}
	x, err := sweep.Trim(d)
	want, trim := trimWords(d)
	if !trim.is(err) || !sameDoc(x, want) {
		t.Fatalf("Trim(%+v): %+v, %v; want %+v, %v", d, x, err, want, trim)
	}
	x, err = sweep.Stack(d)
	want, stack := stackWords(d)
	if !stack.is(err) || !sameDoc(x, want) {
		t.Fatalf("Stack(%+v): %+v, %v; want %+v, %v", d, x, err, want, stack)
	}
	l, err := sweep.Overlaps(d, pairs)
	wantPairs, overlaps := overlapsWords(d, pairs)
	if !overlaps.is(err) || !slices.Equal(l, wantPairs) {
		t.Fatalf("Overlaps(%+v, %d): %v, %v; want %v, %v", d, pairs, l, err, wantPairs, overlaps)
	}
	return [4]api.Errno{covered.e, trim.e, stack.e, overlaps.e}
}

// holdWrong complains if a call tells anything but CheckDoc's error of a document that is not right.
func holdWrong(t *testing.T, d api.Doc) {
	t.Helper()
	w, ok := cue.CheckDoc(d).(*cue.Wrong)
	if !ok {
		t.Fatalf("%+v is right", d)
	}
	f := fault{w.Cue, w.Err}
	if l, err := sweep.Segments(d); !f.is(err) || len(l) > 0 {
		t.Fatalf("Segments(%+v): %v, %v; want %v", d, l, err, f)
	}
	if n, err := sweep.Most(d); !f.is(err) || n != 0 {
		t.Fatalf("Most(%+v): %v, %v; want %v", d, n, err, f)
	}
	if x, err := sweep.Covered(d); !f.is(err) || x != (api.Ratio{}) {
		t.Fatalf("Covered(%+v): %v, %v; want %v", d, x, err, f)
	}
	if x, err := sweep.Trim(d); !f.is(err) || len(x.Cues) > 0 {
		t.Fatalf("Trim(%+v): %v, %v; want %v", d, x, err, f)
	}
	if x, err := sweep.Stack(d); !f.is(err) || len(x.Cues) > 0 {
		t.Fatalf("Stack(%+v): %v, %v; want %v", d, x, err, f)
	}
	for _, most := range []int{-1, 0, 1} {
		if l, err := sweep.Overlaps(d, most); !f.is(err) || len(l) > 0 {
			t.Fatalf("Overlaps(%+v, %d): %v, %v; want %v", d, most, l, err, f)
		}
	}
}

// TestWords: P1201 to P1204 of documents whose times and texts fit, by the words.
func TestWords(t *testing.T) {
	m, met := newMaker(1), 0
	for range 8000 {
		d := m.doc(10, tame())
		if e := holdWords(t, d, m.dice.IntN(40)); e != [4]api.Errno{} {
			t.Fatalf("%+v: %v", d, e)
		}
		if mostWords(d) > 3 {
			met++
		}
	}
	if met < 3000 {
		t.Errorf("only %d overlap: the documents try too little", met)
	}
}

// TestWordsWrong: P1201 to P1204 of what may not be, or does not fit, by the words.
func TestWordsWrong(t *testing.T) {
	m, seen := newMaker(2), [5]map[api.Errno]int{{}, {}, {}, {}, {}}
	for range 8000 {
		d := m.doc(8, wild())
		m.spoil(d)
		if err := cue.CheckDoc(d); err != nil {
			seen[4][err.(*cue.Wrong).Err]++
			holdWrong(t, d)
			continue
		}
		for k, e := range holdWords(t, d, m.dice.IntN(20)-5) {
			seen[k][e]++
		}
	}
	for k, l := range [][]api.Errno{
		{api.OK, api.ErrWide},
		{api.OK, api.ErrLong, api.ErrMany},
		{api.OK, api.ErrLong, api.ErrMany},
		{api.OK, api.ErrArg},
		{api.ErrWide, api.ErrBack, api.ErrLane, api.ErrName, api.ErrSpan, api.ErrOrder},
	} {
		for _, e := range l {
			if seen[k][e] < 20 {
				t.Errorf("%d: %v only %d times: the documents try too little", k, e, seen[k][e])
			}
		}
	}
}

// TestWordsCrowd: P1201 to P1204 of documents of many cues, by the words.
func TestWordsCrowd(t *testing.T) {
	m := newMaker(3)
	for range 30 {
		holdWords(t, m.doc(150, pick(m, tame(), wild())), m.dice.IntN(5000))
	}
}
