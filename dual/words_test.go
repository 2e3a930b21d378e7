package dual_test

import (
	"math/big"
	"math/rand/v2"
	"slices"
	"strings"
	"testing"

	"surtitle/api"
	"surtitle/cue"
	"surtitle/dual"
)

// What stands here says the chapter's words by big fractions and by going through all rows of pairs, slowly, to hold the program against.

func rat(x api.Ratio) *big.Rat { return big.NewRat(x.N, x.D) }

// thousandthsWords: the whole number that is nearest to a time times 1000; of two the greater one.
func thousandthsWords(x api.Ratio) int64 {
	y := new(big.Rat).Mul(rat(x), big.NewRat(1000, 1))
	y.Add(y, big.NewRat(1, 2))
	return new(big.Int).Div(y.Num(), y.Denom()).Int64()
}

// shareWords: what two cues share; 0: nothing.
func shareWords(x, y api.Cue) int64 {
	end, start := x.End, x.Start
	if rat(y.End).Cmp(rat(end)) < 0 {
		end = y.End
	}
	if rat(y.Start).Cmp(rat(start)) > 0 {
		start = y.Start
	}
	return max(0, thousandthsWords(end)-thousandthsWords(start))
}

// sumWords: what the pairs of a row share.
func sumWords(a, b api.Doc, row pairs) int64 {
	sum := int64(0)
	for _, p := range row {
		sum += shareWords(a.Cues[p[0]], b.Cues[p[1]])
	}
	return sum
}

// sharesWords: what each two cues share.
func sharesWords(a, b api.Doc) [][]int64 {
	shares := make([][]int64, len(a.Cues))
	for i, x := range a.Cues {
		for _, y := range b.Cues {
			shares[i] = append(shares[i], shareWords(x, y))
		}
	}
	return shares
}

// rowsWords goes through all rows of pairs that share something, both numbers rising, with what they share in all: those that begin as row does.
func rowsWords(shares [][]int64, row pairs, sum int64, told func(pairs, int64)) {
	told(row, sum)
	next := [2]int{}
	if n := len(row); n > 0 {
		next = [2]int{row[n-1][0] + 1, row[n-1][1] + 1}
	}
	for i := next[0]; i < len(shares); i++ {
		for j := next[1]; j < len(shares[i]); j++ {
			if n := shares[i][j]; n > 0 {
				rowsWords(shares, append(slices.Clone(row), [2]int{i, j}), sum+n, told)
			}
		}
	}
}

// isFirst: of rows with as many pairs: whether x's first number that is another one is the lesser.
func isFirst(x, y pairs) bool {
	for n := range x {
		for k := range 2 {
			if x[n][k] != y[n][k] {
				return x[n][k] < y[n][k]
			}
		}
	}
	return false
}

// pairsWords: P1901 of right documents that are not too great.
func pairsWords(a, b api.Doc) pairs {
	var best pairs
	sum := int64(0)
	rowsWords(sharesWords(a, b), nil, 0, func(row pairs, n int64) {
		if n > sum || n == sum && (len(row) > len(best) || len(row) == len(best) && isFirst(row, best)) {
			best, sum = row, n
		}
	})
	return best
}

// inOrder: W8, of a cue ahead and one behind.
func inOrder(x, y api.Cue) bool {
	c := rat(x.Start).Cmp(rat(y.Start))
	return c < 0 || c == 0 && rat(x.End).Cmp(rat(y.End)) <= 0
}

// setWords: b as its cues are set by the pairs; and which ones were.
func setWords(a, b api.Doc, row pairs) (api.Doc, map[int]int) {
	d, set := cue.Twin(b), map[int]int{}
	for _, p := range row {
		was := d.Cues[p[1]]
		d.Cues[p[1]].Start, d.Cues[p[1]].End = a.Cues[p[0]].Start, a.Cues[p[0]].End
		if !isInOrder(d) {
			d.Cues[p[1]] = was
			continue
		}
		set[p[1]] = p[0]
	}
	return d, set
}

// isInOrder: W8, of each two that are neighbours: of one changed cue in what was in order these are that with the one ahead and with the next.
func isInOrder(d api.Doc) bool {
	for n := 1; n < len(d.Cues); n++ {
		if !inOrder(d.Cues[n-1], d.Cues[n]) {
			return false
		}
	}
	return true
}

// mergeWords: P1902 of right documents that are not too great: the first one that may come next is taken, a's ahead of b's.
func mergeWords(a, b api.Doc) (api.Doc, fault) {
	for _, d := range []api.Doc{a, b} {
		for n, x := range d.Cues {
			if x.Side != api.Low {
				return api.Doc{}, fault{n, api.ErrLane}
			}
		}
	}
	set, _ := setWords(a, b, pairsWords(a, b))
	ours, theirs := slices.Clone(a.Cues), set.Cues
	var d api.Doc
	for len(ours)+len(theirs) > 0 {
		if len(theirs) == 0 || len(ours) > 0 && inOrder(ours[0], theirs[0]) {
			d.Cues, ours = append(d.Cues, ours[0]), ours[1:]
		} else {
			d.Cues, theirs = append(d.Cues, up(theirs[0])), theirs[1:]
		}
	}
	return d, fault{}
}

// apartWords: P1903 of a right document: the cues of a side, as Low ones.
func apartWords(d api.Doc, side int) api.Doc {
	var l []api.Cue
	for _, x := range d.Cues {
		if x.Side == side {
			x.Side = api.Low
			l = append(l, x)
		}
	}
	return doc(l...)
}

// maker makes things by chance, the same each time.
type maker struct{ dice *rand.Rand }

func newMaker(seed uint64) maker { return maker{rand.New(rand.NewPCG(seed, 19))} }

func (m maker) half() bool { return m.dice.IntN(2) == 0 }

// one tells whether it comes to that: once in so many.
func (m maker) one(in int) bool { return m.dice.IntN(in) == 0 }

// pick is one of some.
func pick[T any](m maker, l ...T) T { return l[m.dice.IntN(len(l))] }

// text is a right one.
func (m maker) text() api.Text {
	x := api.Text{}
	for range m.dice.IntN(6) {
		x.S += pick(m, "a", "bc", " ", "é", "\n", "中", "\U0001f600", "\xc3", "\xff", "\x00")
	}
	if n := len([]rune(x.S)); n > 0 && m.half() {
		x.Spans = []api.Span{{From: 0, To: n, Kind: api.KColour, Value: m.dice.IntN(3)}}
	}
	return x
}

// clock is how times are made: of which parts of a second, how many.
type clock struct{ parts, most int64 }

// clock is one of some: whole seconds, of which many share as much; times that are rounded; the last ones.
func (m maker) clock() clock {
	return pick(m, clock{1, 6}, clock{1, 12}, clock{1, 30}, clock{2, 12}, clock{3000, 20}, clock{2000, 12}, clock{10000, 60}, clock{1<<20 - 1, 5000}, clock{1001, 9000}, clock{1, api.MaxTime})
}

func (m maker) time(c clock) api.Ratio {
	x := big.NewRat(m.dice.Int64N(c.most+1), c.parts)
	return r(x.Num().Int64(), x.Denom().Int64())
}

// cue is a right one, of the lower side.
func (m maker) cue(c clock) api.Cue {
	x := api.Cue{Start: m.time(c), End: m.time(c), Lane: m.dice.IntN(8), Name: pick(m, "", "Ann", "Bob"), Text: m.text()}
	for x.Start == x.End {
		x.End = m.time(c)
	}
	if rat(x.Start).Cmp(rat(x.End)) > 0 {
		x.Start, x.End = x.End, x.Start
	}
	return x
}

// doc is a right one of up to so many cues.
func (m maker) doc(many int, c clock) api.Doc {
	var l []api.Cue
	for range m.dice.IntN(many + 1) {
		l = append(l, m.cue(c))
	}
	return doc(cue.Sort(l)...)
}

// two are documents of one time, the second one at times that of the first, moved a little.
func (m maker) two(many int) (api.Doc, api.Doc) {
	c := m.clock()
	a := m.doc(many, c)
	if m.half() {
		return a, m.doc(many, c)
	}
	b := cue.Twin(a)
	for i := range b.Cues {
		if x := m.cue(c); m.half() && rat(x.Start).Cmp(rat(b.Cues[i].End)) < 0 {
			b.Cues[i].Start = x.Start
		}
	}
	return a, doc(cue.Sort(b.Cues)...)
}

// ratio is any one, right or not.
func (m maker) ratio() api.Ratio {
	if m.half() {
		return r(m.dice.Int64N(9)-4, m.dice.Int64N(9)-2)
	}
	return r(int64(m.dice.Uint64())>>m.dice.IntN(64), int64(m.dice.Uint64())>>m.dice.IntN(64))
}

// spoil makes something of a document wrong, or of another side.
func (m maker) spoil(d api.Doc) {
	if len(d.Cues) == 0 {
		return
	}
	x := &d.Cues[m.dice.IntN(len(d.Cues))]
	switch m.dice.IntN(8) {
	case 0:
		x.Start = m.ratio()
	case 1:
		x.End = m.ratio()
	case 2:
		x.Lane = m.dice.IntN(14) - 3
	case 3:
		x.Side = m.dice.IntN(7) - 3
	case 4:
		x.Name = "\n"
	case 5:
		x.Text.Spans = []api.Span{{From: 0, To: m.dice.IntN(9), Kind: 1}}
	case 6:
		slices.Reverse(d.Cues)
	default:
		x.Text = api.Text{S: strings.Repeat("x ", 2000+m.dice.IntN(90))}
	}
}

// sides lays cues on any side.
func (m maker) sides(d api.Doc) api.Doc {
	for i := range d.Cues {
		d.Cues[i].Side = m.dice.IntN(2)
	}
	return d
}

// holdWords complains if a call of right documents does otherwise than the words; it tells Merge's error.
func holdWords(t *testing.T, a, b api.Doc) api.Errno {
	t.Helper()
	row, err := dual.Pairs(a, b)
	if want := pairsWords(a, b); err != nil || !slices.Equal(row, want) {
		t.Fatalf("Pairs(%+v, %+v): %v, %v; want %v", a, b, row, err, want)
	}
	d, err := dual.Merge(a, b)
	want, f := mergeWords(a, b)
	if !f.is(err) || !sameDoc(d, want) {
		t.Fatalf("Merge(%+v, %+v): %+v, %v; want %+v, %v", a, b, d, err, want, f)
	}
	return f.e
}

// holdWrong complains if a call tells anything but CheckDoc's error of a document that is not right.
func holdWrong(t *testing.T, d api.Doc) {
	t.Helper()
	w, ok := cue.CheckDoc(d).(*cue.Wrong)
	if !ok {
		t.Fatalf("%+v is right", d)
	}
	f := fault{w.Cue, w.Err}
	for _, call := range calls() {
		for _, x := range [][2]api.Doc{{d, doc()}, {doc(), d}, {d, d}, {d, doc(high(0, 1, ""))}, {doc(high(0, 1, "")), d}} {
			if err := call(x[0], x[1]); !f.is(err) {
				t.Fatalf("%+v: %v; want %v", x, err, f)
			}
		}
	}
	if a, b, err := dual.Apart(d); !f.is(err) || len(a.Cues) > 0 || len(b.Cues) > 0 {
		t.Fatalf("Apart(%+v): %v, %v, %v; want %v", d, a, b, err, f)
	}
}

// TestWords: P1901 and P1902 of right documents, by the words.
func TestWords(t *testing.T) {
	m, met := newMaker(1), map[string]int{}
	for range 20000 {
		a, b := m.two(pick(m, 3, 5, 6))
		if e := holdWords(t, a, b); e != api.OK {
			t.Fatal(e)
		}
		row := pairsWords(a, b)
		_, set := setWords(a, b, row)
		if len(row) > 2 {
			met["rows of pairs"]++
		}
		if len(set) > 2 {
			met["cues set"]++
		}
		if len(set) < len(row) {
			met["cues not set"]++
		}
		if len(row) == 0 && len(a.Cues) > 0 && len(b.Cues) > 0 {
			met["nothing shared"]++
		}
	}
	for _, what := range []string{"rows of pairs", "cues set", "cues not set", "nothing shared"} {
		if met[what] < 500 {
			t.Errorf("%s: only %d: the documents try too little", what, met[what])
		}
	}
}

// TestWordsTies: P1901 of short cues that share as much as others, in many ways, by the words.
func TestWordsTies(t *testing.T) {
	m, met := newMaker(2), [2]int{}
	for range 15000 {
		c := clock{1, 8 + m.dice.Int64N(5)}
		a, b := m.doc(6, c), m.doc(6, c)
		row, err := dual.Pairs(a, b)
		sum, many, first := sumWords(a, b, row), 0, true
		rowsWords(sharesWords(a, b), nil, 0, func(x pairs, n int64) {
			if n > sum || n == sum && len(x) > len(row) {
				t.Fatalf("Pairs(%+v, %+v): %v; %v is better", a, b, row, x)
			} else if n == sum && len(x) == len(row) {
				many++
				first = first && !isFirst(x, row)
			} else if n == sum {
				met[1]++
			}
		})
		if err != nil || many == 0 || !first {
			t.Fatalf("Pairs(%+v, %+v): %v, %v", a, b, row, err)
		}
		if many > 1 {
			met[0]++
		}
	}
	if met[0] < 3000 || met[1] < 1000 {
		t.Errorf("%v: the documents try too little", met)
	}
}

// TestWordsWrong: P1901 to P1903 of what may not be, by the words.
func TestWordsWrong(t *testing.T) {
	m, seen := newMaker(3), map[api.Errno]int{}
	for range 8000 {
		a, b := m.two(5)
		m.spoil(pick(m, a, b))
		ours, theirs := cue.CheckDoc(a), cue.CheckDoc(b)
		if ours == nil && theirs == nil {
			seen[holdWords(t, a, b)]++
			continue
		}
		bad, err := a, ours
		if ours == nil {
			bad, err = b, theirs
		}
		f := fault{err.(*cue.Wrong).Cue, err.(*cue.Wrong).Err}
		seen[f.e]++
		holdWrong(t, bad)
		for _, call := range calls() {
			if err := call(a, b); !f.is(err) {
				t.Fatalf("%+v, %+v: %v; want %v", a, b, err, f)
			}
		}
	}
	for _, e := range []api.Errno{api.OK, api.ErrWide, api.ErrBack, api.ErrLane, api.ErrName, api.ErrSpan, api.ErrOrder, api.ErrLong} {
		if seen[e] < 20 {
			t.Errorf("%v only %d times: the documents try too little", e, seen[e])
		}
	}
}

// TestWordsApart: P1903 of documents of both sides, by the words.
func TestWordsApart(t *testing.T) {
	m := newMaker(4)
	for range 5000 {
		d := m.sides(m.doc(20, m.clock()))
		a, b, err := dual.Apart(d)
		if err != nil || !sameDoc(a, apartWords(d, api.Low)) || !sameDoc(b, apartWords(d, api.High)) {
			t.Fatalf("Apart(%+v): %+v, %+v, %v", d, a, b, err)
		}
	}
}
