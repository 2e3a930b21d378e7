package speed_test

import (
	"math/big"
	"math/rand/v2"
	"slices"
	"testing"

	"surtitle/api"
	"surtitle/cell"
	"surtitle/cue"
	"surtitle/speed"
	"surtitle/style"
)

// What stands here says the chapter's words by big fractions and by looking at all cues, slowly, to hold the program against.

func rat(x api.Ratio) *big.Rat { return big.NewRat(x.N, x.D) }

func plus(x, y *big.Rat) *big.Rat { return new(big.Rat).Add(x, y) }

func less(x, y *big.Rat) *big.Rat { return new(big.Rat).Sub(x, y) }

func above(x, y *big.Rat) bool { return x.Cmp(y) > 0 }

// most is the last time, MaxTime.
func most() *big.Rat { return big.NewRat(360000, 1) }

// fits: W4, and up to a D: the right ratio that an exact value is.
func fits(x *big.Rat, d int64) (api.Ratio, bool) {
	if !x.Denom().IsInt64() || x.Denom().Int64() > d || x.Num().CmpAbs(big.NewInt(1<<62)) > 0 {
		return api.Ratio{}, false
	}
	return r(x.Num().Int64(), x.Denom().Int64()), true
}

// isRight: W4.
func isRight(x api.Ratio) bool {
	if x.D < 1 {
		return false
	}
	y, ok := fits(rat(x), 1<<31)
	return ok && x == y
}

// isTime: W5.
func isTime(x api.Ratio) bool {
	return isRight(x) && x.D <= 1<<20 && x.N >= 0 && !above(rat(x), most())
}

// areRight: of rules.
func areRight(x speed.Rules) bool {
	return isRight(x.Signs) && x.Signs.N > 0 && isTime(x.Least) && isTime(x.Gap)
}

// countWords: P1101.
func countWords(x api.Text) int {
	n := 0
	for _, g := range []rune(x.S) {
		if cell.Width(g) > 0 && g != '\u0020' && g != '\u00a0' && g != '\u3000' {
			n++
		}
	}
	return n
}

// wantsWords: P1102 of a right text and right rules.
func wantsWords(x api.Text, rules speed.Rules) (*big.Rat, api.Errno) {
	read := new(big.Rat).Quo(big.NewRat(int64(countWords(x)), 1), rat(rules.Signs))
	if _, ok := fits(read, 1<<20); !ok {
		return nil, api.ErrWide
	}
	if above(read, most()) {
		return nil, api.ErrTime
	}
	if above(rat(rules.Least), read) {
		return rat(rules.Least), api.OK
	}
	return read, api.OK
}

// checkWords: the errors that Look and Fit begin with.
func checkWords(d api.Doc, rules speed.Rules) fault {
	if err := cue.CheckDoc(d); err != nil {
		w := err.(*cue.Wrong)
		return fault{w.Cue, w.Err}
	}
	if !areRight(rules) {
		return fault{0, api.ErrArg}
	}
	return fault{}
}

// lookWords: P1103.
func lookWords(d api.Doc, rules speed.Rules) ([]speed.Fast, fault) {
	if f := checkWords(d, rules); f.e != api.OK {
		return nil, f
	}
	var l []speed.Fast
	for n, x := range d.Cues {
		wants, e := wantsWords(x.Text, rules)
		if e != api.OK {
			return nil, fault{n, e}
		}
		seen := less(rat(x.End), rat(x.Start))
		if _, ok := fits(seen, 1<<31); !ok {
			return nil, fault{n, api.ErrWide}
		}
		if !above(wants, seen) {
			continue
		}
		lacks, ok := fits(less(wants, seen), 1<<31)
		if !ok {
			return nil, fault{n, api.ErrWide}
		}
		l = append(l, speed.Fast{Cue: n, Lacks: lacks})
	}
	return l, fault{}
}

// limitWords: P1104's limit of a document's cue.
func limitWords(d api.Doc, n int, gap api.Ratio) *big.Rat {
	x := d.Cues[n]
	for _, y := range d.Cues[n+1:] {
		if y.Lane == x.Lane && y.Side == x.Side && !above(rat(x.End), rat(y.Start)) {
			return less(rat(y.Start), rat(gap))
		}
	}
	return most()
}

// endWords: P1104: where a document's cue comes to end.
func endWords(d api.Doc, n int, rules speed.Rules) (api.Ratio, api.Errno) {
	x := d.Cues[n]
	wants, e := wantsWords(x.Text, rules)
	if e != api.OK {
		return api.Ratio{}, e
	}
	stay := plus(rat(x.Start), wants)
	end, ok := fits(stay, 1<<20)
	if !ok {
		return api.Ratio{}, api.ErrWide
	}
	if !above(stay, rat(x.End)) {
		return x.End, api.OK
	}
	limit := limitWords(d, n, rules.Gap)
	last, ok := fits(limit, 1<<20)
	if !ok {
		return api.Ratio{}, api.ErrWide
	}
	if above(stay, limit) {
		stay, end = limit, last
	}
	if !above(stay, rat(x.End)) {
		return x.End, api.OK
	}
	return end, api.OK
}

// fitWords: P1104.
func fitWords(d api.Doc, rules speed.Rules) (api.Doc, []speed.Fast, fault) {
	if f := checkWords(d, rules); f.e != api.OK {
		return api.Doc{}, nil, f
	}
	var l []api.Cue
	for n, x := range d.Cues {
		end, e := endWords(d, n, rules)
		if e != api.OK {
			return api.Doc{}, nil, fault{n, e}
		}
		x.End = end
		l = append(l, x)
	}
	y := doc(cue.Sort(l)...)
	fast, f := lookWords(y, rules)
	if f.e != api.OK {
		return api.Doc{}, nil, f
	}
	return y, fast, fault{}
}

// rounded is an exact value as a float.
func rounded(x *big.Rat) float64 {
	f, _ := x.Float64()
	return f
}

// exact is a float as a fraction.
func exact(f float64) *big.Rat { return new(big.Rat).SetFloat64(f) }

// meanWords: P1105 of a right document, each operation done exactly and then rounded once.
func meanWords(d api.Doc) float64 {
	seen, signs := 0.0, 0
	for _, x := range d.Cues {
		long := rounded(less(exact(rounded(rat(x.End))), exact(rounded(rat(x.Start)))))
		seen = rounded(plus(exact(seen), exact(long)))
		signs += countWords(x.Text)
	}
	if seen <= 0 {
		return 0
	}
	return rounded(new(big.Rat).Quo(big.NewRat(int64(signs), 1), exact(seen)))
}

// maker makes things by chance, the same each time.
type maker struct{ dice *rand.Rand }

func newMaker(seed uint64) maker { return maker{rand.New(rand.NewPCG(seed, 11))} }

func (m maker) half() bool { return m.dice.IntN(2) == 0 }

// one tells whether it comes to that: once in so many.
func (m maker) one(in int) bool { return m.dice.IntN(in) == 0 }

// pick is one of some.
func pick[T any](m maker, l ...T) T { return l[m.dice.IntN(len(l))] }

// text is a right one, some of its signs read.
func (m maker) text() api.Text {
	x := api.Text{}
	for range m.dice.IntN(20) {
		x.S += pick(m, "a", "b", "é", " ", "\n", "\u00a0", "\u3000", "\u4e2d", "\u0301", "\U0001f600", "\u200d", "\xff", "\xe4\xb8", "\x00", "\u2003", "\ufffd")
	}
	if n := len([]rune(x.S)); n > 0 && m.half() {
		x.Spans = []api.Span{{From: m.dice.IntN(n), To: n, Kind: 1 + m.dice.IntN(4)}}
	}
	return x
}

// time is one; most of them are early, some of them the last ones.
func (m maker) time(ds ...int64) api.Ratio {
	d := pick(m, ds...)
	n := m.dice.Int64N(min(20*d, 1<<30))
	if m.one(8) {
		n = 360000*d - n
	}
	x, _ := fits(big.NewRat(n, d), 1<<20)
	return x
}

// tame and wild are the denominators of times whose sums fit, and may not fit.
func tame() []int64 { return []int64{1, 1, 2, 4, 5, 10, 20} }

func wild() []int64 { return []int64{1, 2, 4, 10, 1000, 1001, 30000, 1 << 20, 1<<20 - 1} }

// cue is a right one, in few lanes.
func (m maker) cue(ds []int64) api.Cue {
	x := api.Cue{Start: m.time(ds...), End: m.time(ds...), Lane: m.dice.IntN(2), Side: m.dice.IntN(2), Text: m.text()}
	if !above(most(), rat(x.Start)) {
		x.Start = r(1, 1)
	}
	if m.half() || !above(rat(x.End), rat(x.Start)) {
		if end, ok := fits(plus(rat(x.Start), big.NewRat(1+m.dice.Int64N(8), pick(m, ds...))), 1<<20); ok && isTime(end) {
			x.End = end
		}
	}
	if !above(rat(x.End), rat(x.Start)) {
		x.End = r(360000, 1)
	}
	if m.one(4) {
		x.Name = "Ann"
	}
	return x
}

// doc is a right one of up to so many cues, some of the same Start.
func (m maker) doc(many int, ds []int64) api.Doc {
	var l []api.Cue
	for range m.dice.IntN(many + 1) {
		x := m.cue(ds)
		if len(l) > 0 && m.one(3) {
			y := pick(m, l...)
			if start := pick(m, y.Start, y.End); above(rat(x.End), rat(start)) {
				x.Start = start
			}
		}
		l = append(l, x)
	}
	return doc(cue.Sort(l)...)
}

// ratio is any one, right or not.
func (m maker) ratio() api.Ratio {
	if m.half() {
		return r(m.dice.Int64N(9)-4, m.dice.Int64N(9)-2)
	}
	return r(int64(m.dice.Uint64())>>m.dice.IntN(64), int64(m.dice.Uint64())>>m.dice.IntN(64))
}

// rules are right ones.
func (m maker) rules(ds []int64) speed.Rules {
	x := speed.Rules{Signs: pick(m, r(1, 1), r(2, 1), r(5, 1), r(10, 1), r(15, 2), r(20, 3)), Least: m.time(ds...), Gap: m.time(ds...)}
	if m.half() {
		x.Least = pick(m, r(0, 1), r(1, 1), r(5, 2))
	}
	if m.half() {
		x.Gap = pick(m, r(0, 1), r(1, 10), r(1, 2))
	}
	return x
}

// spoil makes something of a document or of rules wrong.
func (m maker) spoil(d *api.Doc, rules *speed.Rules) {
	switch at := m.dice.IntN(8); {
	case at == 0:
		rules.Signs = m.ratio()
	case at == 1:
		rules.Least = m.ratio()
	case at == 2:
		rules.Gap = m.ratio()
	case at == 3:
		rules.Signs = pick(m, r(1, 1<<20), r(1, 100000), r(1<<20+1, 1), r(1<<40, 3), r(1<<62, 1), r(3, 1<<31))
	case len(d.Cues) == 0:
	case at == 4:
		pick(m, &d.Cues[0], &d.Cues[len(d.Cues)-1]).End = m.ratio()
	case at == 5:
		d.Cues[len(d.Cues)-1].Lane = m.dice.IntN(12) - 2
	case at == 6:
		d.Cues[m.dice.IntN(len(d.Cues))].Text.Spans = []api.Span{{From: 0, To: m.dice.IntN(30), Kind: 1}}
	case at == 7:
		slices.Reverse(d.Cues)
	}
}

// holdWords complains if Look, Fit or Mean do otherwise than the words; it tells what they are refused by.
func holdWords(t *testing.T, d api.Doc, rules speed.Rules) [2]api.Errno {
	t.Helper()
	fast, err := speed.Look(d, rules)
	l, f := lookWords(d, rules)
	if !f.is(err) || !slices.Equal(fast, l) {
		t.Fatalf("Look(%+v, %v): %v, %v; want %v, %+v", d, rules, fast, err, l, f)
	}
	x, fast, err := speed.Fit(d, rules)
	y, l, g := fitWords(d, rules)
	if !g.is(err) || !slices.Equal(fast, l) || !sameDoc(x, y) {
		t.Fatalf("Fit(%+v, %v): %+v, %v, %v; want %+v, %v, %+v", d, rules, x, fast, err, y, l, g)
	}
	mean, err := speed.Mean(d)
	if checkWords(d, rules) == (fault{}) && (err != nil || mean != meanWords(d)) {
		t.Fatalf("Mean(%+v): %v, %v; want %v", d, mean, err, meanWords(d))
	}
	return [2]api.Errno{f.e, g.e}
}

// TestWords: P1103 to P1105 of documents and rules whose times fit, by the words.
func TestWords(t *testing.T) {
	m, later, fast := newMaker(1), 0, 0
	for range 20000 {
		d, rules := m.doc(8, tame()), m.rules(tame())
		if e := holdWords(t, d, rules); e != [2]api.Errno{} {
			t.Fatalf("%+v, %v: %v", d, rules, e)
		}
		x, l, _ := speed.Fit(d, rules)
		fast += len(l)
		if !sameDoc(x, d) {
			later++
		}
	}
	if later < 8000 || fast < 8000 {
		t.Errorf("%d are let stay, %d cues are fast: the documents try too little", later, fast)
	}
}

// TestWordsWrong: P1103 and P1104 of what may not be, or does not fit, by the words.
func TestWordsWrong(t *testing.T) {
	m, look, fit := newMaker(2), map[api.Errno]int{}, map[api.Errno]int{}
	for range 30000 {
		d, rules := m.doc(5, wild()), m.rules(wild())
		if m.half() {
			m.spoil(&d, &rules)
		}
		e := holdWords(t, d, rules)
		look[e[0]]++
		fit[e[1]]++
	}
	for _, e := range []api.Errno{api.OK, api.ErrArg, api.ErrWide, api.ErrTime, api.ErrLane, api.ErrSpan, api.ErrOrder} {
		if look[e] < 100 || fit[e] < 100 {
			t.Errorf("%v only %d and %d times: the documents try too little", e, look[e], fit[e])
		}
	}
}

// TestWantsWords: P1101 and P1102 by the words, of texts and rules right and not.
func TestWantsWords(t *testing.T) {
	m := newMaker(3)
	for range 30000 {
		x, rules := m.text(), m.rules(wild())
		if m.one(3) {
			m.spoil(&api.Doc{}, &rules)
		}
		if m.one(8) {
			x.Spans = append(x.Spans, api.Span{From: m.dice.IntN(9), To: m.dice.IntN(20), Kind: m.dice.IntN(6)})
		}
		if n := speed.Count(x); n != countWords(x) {
			t.Fatalf("Count(%+v): %d; want %d", x, n, countWords(x))
		}
		var want api.Ratio
		e := style.Check(x)
		if e == api.OK && !areRight(rules) {
			e = api.ErrArg
		}
		if e == api.OK {
			var y *big.Rat
			if y, e = wantsWords(x, rules); e == api.OK {
				want, _ = fits(y, 1<<20)
			}
		}
		if got, f := speed.Wants(x, rules); got != want || f != e {
			t.Fatalf("Wants(%+v, %v): %v, %v; want %v, %v", x, rules, got, f, want, e)
		}
	}
}

// TestMeanWords: P1105 of many cues of any times, by the words.
func TestMeanWords(t *testing.T) {
	m := newMaker(4)
	for range 300 {
		d := m.doc(200, wild())
		if got, err := speed.Mean(d); err != nil || got != meanWords(d) {
			t.Fatalf("Mean(%+v): %v, %v; want %v", d, got, err, meanWords(d))
		}
	}
}
