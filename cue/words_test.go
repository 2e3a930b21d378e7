package cue_test

import (
	"math/big"
	"math/rand/v2"
	"slices"
	"strings"
	"testing"

	"surtitle/api"
	"surtitle/cue"
	"surtitle/mark"
	"surtitle/retime"
	"surtitle/style"
)

// What stands here says the chapter's words by big fractions and by looking at everything, slowly, to hold the program against.

func rat(x api.Ratio) *big.Rat { return big.NewRat(x.N, x.D) }

// fit: W4: the right ratio that an exact value is.
func fit(x *big.Rat) (api.Ratio, bool) {
	if !x.Denom().IsInt64() || x.Denom().Int64() > 1<<31 || x.Num().CmpAbs(big.NewInt(1<<62)) > 0 {
		return api.Ratio{}, false
	}
	return r(x.Num().Int64(), x.Denom().Int64()), true
}

// isRight: W4.
func isRight(x api.Ratio) bool {
	if x.D < 1 {
		return false
	}
	y, ok := fit(rat(x))
	return ok && x == y
}

// timeWords: W5.
func timeWords(x api.Ratio) api.Errno {
	if !isRight(x) || x.D > 1<<20 {
		return api.ErrWide
	}
	if rat(x).Sign() < 0 || rat(x).Cmp(big.NewRat(360000, 1)) > 0 {
		return api.ErrTime
	}
	return api.OK
}

// crossWords: W6: two spans that share a sign, none within the other.
func crossWords(x, y api.Span) bool {
	shared := max(x.From, y.From) < min(x.To, y.To)
	within := x.From <= y.From && y.To <= x.To || y.From <= x.From && x.To <= y.To
	return shared && !within
}

// textWords: W6.
func textWords(x api.Text) api.Errno {
	if len(x.S) > 4096 {
		return api.ErrLong
	}
	if len(x.Spans) > 256 {
		return api.ErrMany
	}
	for n, y := range x.Spans {
		if y.Kind < 1 || y.Kind > 5 || y.Value < 0 || y.Value > 0xffffff || y.Kind != 5 && y.Value != 0 || y.From < 0 || y.To > len([]rune(x.S)) || y.From >= y.To {
			return api.ErrSpan
		}
		for _, z := range x.Spans[:n] {
			if crossWords(y, z) {
				return api.ErrSpan
			}
		}
	}
	return api.OK
}

// checkWords: W8 and the table of errors.
func checkWords(x api.Cue) api.Errno {
	if e := timeWords(x.Start); e != api.OK {
		return e
	}
	if e := timeWords(x.End); e != api.OK {
		return e
	}
	if rat(x.Start).Cmp(rat(x.End)) >= 0 {
		return api.ErrBack
	}
	if x.Lane < 0 || x.Lane > 7 || x.Side < 0 || x.Side > 1 {
		return api.ErrLane
	}
	if len(x.Name) > 64 || strings.ContainsFunc(x.Name, func(r rune) bool { return r < 0x20 }) {
		return api.ErrName
	}
	return textWords(x.Text)
}

// behind: whether a cue's time is above another one's: by Start, then by End.
func behind(x, y api.Cue) bool {
	if way := rat(x.Start).Cmp(rat(y.Start)); way != 0 {
		return way > 0
	}
	return rat(x.End).Cmp(rat(y.End)) > 0
}

// docWords: P901, each cue held against all ahead of it.
func docWords(d api.Doc) fault {
	if len(d.Cues) > 4096 {
		return fault{0, api.ErrMany}
	}
	for n, x := range d.Cues {
		if e := checkWords(x); e != api.OK {
			return fault{n, e}
		}
	}
	for n, x := range d.Cues {
		for _, y := range d.Cues[:n] {
			if behind(y, x) {
				return fault{n, api.ErrOrder}
			}
		}
	}
	return fault{}
}

// sortWords: P902: each is laid ahead of those that are behind it, no further.
func sortWords(l []api.Cue) []api.Cue {
	var sorted []api.Cue
	for _, x := range l {
		to := len(sorted)
		for to > 0 && behind(sorted[to-1], x) {
			to--
		}
		sorted = slices.Insert(sorted, to, x)
	}
	return sorted
}

// sameWords: P903, sign by sign.
func sameWords(x, y api.Doc) bool {
	if docWords(x) != (fault{}) || docWords(y) != (fault{}) || len(x.Cues) != len(y.Cues) {
		return false
	}
	for n, a := range x.Cues {
		b := y.Cues[n]
		if a.Text.S != b.Text.S {
			return false
		}
		for sign := range []rune(a.Text.S) {
			p, _ := style.Look(a.Text, sign)
			q, _ := style.Look(b.Text, sign)
			if p != q {
				return false
			}
		}
		a.Text, b.Text = api.Text{}, api.Text{}
		if !sameCue(a, b) {
			return false
		}
	}
	return true
}

// movedWords: P904 of a time that is told, or not.
func movedWords(x *big.Rat) (api.Ratio, api.Errno) {
	y, ok := fit(x)
	if !ok {
		return api.Ratio{}, api.ErrWide
	}
	if x.Sign() < 0 {
		return api.Ratio{}, api.ErrBack
	}
	return y, timeWords(y)
}

// shiftWords: P904's Shift.
func shiftWords(d api.Doc, by api.Ratio) (api.Doc, fault) {
	if f := docWords(d); f.e != api.OK {
		return api.Doc{}, f
	}
	if !isRight(by) {
		return api.Doc{}, fault{0, api.ErrWide}
	}
	var l []api.Cue
	for n, x := range d.Cues {
		for _, at := range []*api.Ratio{&x.Start, &x.End} {
			y, e := movedWords(new(big.Rat).Add(rat(*at), rat(by)))
			if e != api.OK {
				return api.Doc{}, fault{n, e}
			}
			*at = y
		}
		l = append(l, x)
	}
	return doc(l...), fault{}
}

// retimeWords: P904's Retime.
func retimeWords(d api.Doc, m *retime.Map) (api.Doc, fault) {
	if f := docWords(d); f.e != api.OK {
		return api.Doc{}, f
	}
	var l []api.Cue
	for n, x := range d.Cues {
		for _, at := range []*api.Ratio{&x.Start, &x.End} {
			y, e := m.Apply(*at)
			if e == api.OK {
				y, e = movedWords(rat(y))
			}
			if e != api.OK {
				return api.Doc{}, fault{n, e}
			}
			*at = y
		}
		l = append(l, x)
	}
	return doc(l...), fault{}
}

// withinWords: P905: the numbers of cues that share a time with the stretch; a single time is one, too.
func withinWords(d api.Doc, from, to api.Ratio, single bool) []int {
	if docWords(d) != (fault{}) || !isRight(from) || !isRight(to) {
		return nil
	}
	var l []int
	for n, x := range d.Cues {
		first, end := rat(x.Start), rat(x.End)
		if rat(from).Cmp(first) > 0 {
			first = rat(from)
		}
		if !single && rat(to).Cmp(end) < 0 {
			end = rat(to)
		}
		if first.Cmp(end) < 0 && (!single || first.Cmp(rat(from)) == 0) {
			l = append(l, n)
		}
	}
	return l
}

// steps: how many whole grids there are up to a time and so much of a grid.
func steps(x, grid, more *big.Rat) *big.Rat {
	q := new(big.Rat).Add(new(big.Rat).Quo(x, grid), more)
	return new(big.Rat).SetInt(new(big.Int).Div(q.Num(), q.Denom())) // above 0: floor
}

// snapWords: P906 of a time.
func snapWords(x, grid *big.Rat) *big.Rat {
	near := new(big.Rat).Mul(steps(x, grid, big.NewRat(1, 2)), grid)
	if near.Cmp(big.NewRat(360000, 1)) > 0 {
		return new(big.Rat).Mul(steps(x, grid, new(big.Rat)), grid)
	}
	return near
}

// timesWords: P906's first row.
func timesWords(x api.Cue, grid *big.Rat) (start, end api.Ratio, e api.Errno) {
	s, t := snapWords(rat(x.Start), grid), snapWords(rat(x.End), grid)
	if t.Cmp(s) <= 0 {
		t = new(big.Rat).Add(s, grid)
		if t.Cmp(big.NewRat(360000, 1)) > 0 {
			t = s
			s = new(big.Rat).Sub(t, grid)
		}
	}
	start, ok := fit(s)
	end, ok2 := fit(t)
	if !ok || !ok2 || start.D > 1<<20 || end.D > 1<<20 {
		return api.Ratio{}, api.Ratio{}, api.ErrWide
	}
	return start, end, api.OK
}

// keepWords: P906.
func keepWords(d api.Doc, can api.Can) (api.Doc, []api.Loss, fault) {
	if f := docWords(d); f.e != api.OK {
		return api.Doc{}, nil, f
	}
	if can.Dialect < 1 || can.Dialect > 4 {
		return api.Doc{}, nil, fault{0, api.ErrKind}
	}
	if g := can.Grid; !isRight(g) || rat(g).Sign() <= 0 || rat(g).Cmp(big.NewRat(1, 1)) > 0 || g.D > 1<<20 {
		return api.Doc{}, nil, fault{0, api.ErrArg}
	}
	var l []api.Cue
	var lost []api.Loss
	for n, x := range d.Cues {
		y, all, e := keptWords(n, x, can)
		if e != api.OK {
			return api.Doc{}, nil, fault{n, e}
		}
		l = append(l, y)
		lost = append(lost, all...)
	}
	return doc(sortWords(l)...), lost, fault{}
}

// keptWords: P906's table, of one cue.
func keptWords(n int, x api.Cue, can api.Can) (api.Cue, []api.Loss, api.Errno) {
	y := x
	var e api.Errno
	if y.Start, y.End, e = timesWords(x, rat(can.Grid)); e != api.OK {
		return api.Cue{}, nil, e
	}
	if !can.Lane {
		y.Lane = 0
	}
	if !can.Side {
		y.Side = 0
	}
	if y.Name, _, e = mark.Name(can.Dialect, x.Name); e != api.OK {
		return api.Cue{}, nil, e
	}
	if !can.Name {
		y.Name = ""
	}
	norm, e := style.Norm(x.Text)
	if e != api.OK {
		return api.Cue{}, nil, e
	}
	text, signs, lines, looks, e := mark.Keep(can.Dialect, norm, can.Blank)
	if e != api.OK {
		return api.Cue{}, nil, e
	}
	y.Text = text
	one := map[bool]int{true: 1}
	var lost []api.Loss
	for kind, k := range []int{0, one[x.Start != y.Start || x.End != y.End], one[x.Lane != y.Lane], one[x.Side != y.Side], one[x.Name != y.Name], signs, lines, looks} {
		if k > 0 {
			lost = append(lost, loss(n, kind, k))
		}
	}
	return y, lost, api.OK
}

// maker makes things by chance, the same each time.
type maker struct{ dice *rand.Rand }

func newMaker(seed uint64) maker { return maker{rand.New(rand.NewPCG(seed, 9))} }

func (m maker) half() bool { return m.dice.IntN(2) == 0 }

// pick is one of some.
func pick[T any](m maker, l ...T) T { return l[m.dice.IntN(len(l))] }

// string is one of up to most of some parts.
func (m maker) string(most int, parts ...string) string {
	s := ""
	for range m.dice.IntN(most + 1) {
		s += pick(m, parts...)
	}
	return s
}

// text is a right one, with signs that not all dialects can say.
func (m maker) text() api.Text {
	x := text(m.string(7, "a", "b", " ", "\n", "\n", "<", ">", "{", "}", "|", "\\", "&", "é", "\xc3", "\xa9", "\x01", "😀"))
	n := len([]rune(x.S))
	for range m.dice.IntN(4) {
		if n == 0 {
			break
		}
		from := m.dice.IntN(n)
		y := api.Span{From: from, To: from + 1 + m.dice.IntN(n-from), Kind: 1 + m.dice.IntN(5)}
		if y.Kind == api.KColour {
			y.Value = m.dice.IntN(3)
		}
		if more := append(slices.Clip(x.Spans), y); textWords(api.Text{S: x.S, Spans: more}) == api.OK {
			x.Spans = more
		}
	}
	return x
}

// time is one; many of them are small, or the last ones.
func (m maker) time() api.Ratio {
	d := pick[int64](m, 1, 1, 2, 3, 4, 25, 100, 1000, 1001, 24000, 90000, 1<<20, 1<<20-1)
	n := m.dice.Int64N(min(5*d, 100)*2 + 1)
	switch m.dice.IntN(5) {
	case 0:
		n = 360000*d - n
	case 1:
		n = m.dice.Int64N(360000*d + 1)
	}
	x, _ := fit(big.NewRat(n, d))
	return x
}

// cue is a right one.
func (m maker) cue() api.Cue {
	x := api.Cue{Start: m.time(), End: m.time(), Text: m.text()}
	for x.Start == x.End {
		x.End = m.time()
	}
	if rat(x.Start).Cmp(rat(x.End)) > 0 {
		x.Start, x.End = x.End, x.Start
	}
	if m.half() {
		x.Lane, x.Side = m.dice.IntN(8), m.dice.IntN(2)
	}
	if m.half() {
		x.Name = m.string(3, "Ann", ",", " ", "é", "\xff")
	}
	return x
}

// doc is a right one of up to most cues.
func (m maker) doc(most int) api.Doc {
	var l []api.Cue
	for range m.dice.IntN(most + 1) {
		x := m.cue()
		if len(l) > 0 && m.dice.IntN(3) == 0 {
			x.Start, x.End = l[0].Start, l[0].End
		}
		l = append(l, x)
	}
	return doc(sortWords(l)...)
}

// spoil makes something of a document wrong, often.
func (m maker) spoil(d api.Doc) api.Doc {
	if len(d.Cues) == 0 {
		return d
	}
	x := &d.Cues[m.dice.IntN(len(d.Cues))]
	switch m.dice.IntN(12) {
	case 0:
		x.Start = m.ratio()
	case 1:
		x.End = m.ratio()
	case 2:
		x.Start, x.End = x.End, x.Start
	case 3:
		x.Lane = m.dice.IntN(20) - 5
	case 4:
		x.Side = m.dice.IntN(5) - 1
	case 5:
		x.Name = m.string(70, "n", "n", "n", "é", "n\n")
	case 6:
		x.Text.Spans = append(slices.Clip(x.Text.Spans), api.Span{From: m.dice.IntN(5), To: m.dice.IntN(7), Kind: m.dice.IntN(7)})
	case 7:
		*x = d.Cues[m.dice.IntN(len(d.Cues))]
	case 8:
		x.Start, x.End = m.time(), m.time()
	}
	return d
}

// ratio is any one, right or not, more often small.
func (m maker) ratio() api.Ratio {
	switch m.dice.IntN(4) {
	case 0:
		return r(int64(m.dice.Uint64())>>m.dice.IntN(64), int64(m.dice.Uint64())>>m.dice.IntN(64))
	case 1:
		return r(m.dice.Int64N(9)-4, m.dice.Int64N(9)-2)
	case 2:
		x, _ := fit(big.NewRat(m.dice.Int64N(1<<40)-1<<39, 1+m.dice.Int64N(1<<31)>>m.dice.IntN(31)))
		return x
	}
	x := m.time()
	if m.half() {
		x.N = -x.N
	}
	return x
}

// can is what a format can say, more often a right one.
func (m maker) can() api.Can {
	x := api.Can{Dialect: 1 + m.dice.IntN(4), Lane: m.half(), Side: m.half(), Name: m.half(), Blank: m.half()}
	x.Grid = pick(m, whole(1), r(1, 2), r(1, 25), r(1, 100), r(1, 1000), r(1001, 24000), r(1001, 30000), r(7, 8), r(2, 3), r(5, 7), r(1, 1<<20), r(1<<20-2, 1<<20-1))
	switch m.dice.IntN(30) {
	case 0:
		x.Grid = m.ratio()
	case 1:
		x.Dialect = m.dice.IntN(9) - 2
	}
	return x
}

// TestWords: P901 to P904 of documents right and not, by the words.
func TestWords(t *testing.T) {
	m := newMaker(1)
	right := 0
	for range 20000 {
		d := m.spoil(m.doc(5))
		f := docWords(d)
		if f.e == api.OK {
			right++
		}
		if err := cue.CheckDoc(d); !f.is(err) {
			t.Fatalf("CheckDoc(%+v): %v; want %+v", d, err, f)
		}
		for _, x := range d.Cues {
			if e := cue.Check(x); e != checkWords(x) {
				t.Fatalf("Check(%+v): %v; want %v", x, e, checkWords(x))
			}
		}
		by := m.ratio()
		got, err := cue.Shift(d, by)
		if want, f := shiftWords(d, by); !f.is(err) || !sameDoc(got, want) {
			t.Fatalf("Shift(%+v, %v): %+v, %v; want %+v, %+v", d, by, got, err, want, f)
		}
		norm, err := cue.Norm(d)
		if !f.is(err) {
			t.Fatalf("Norm(%+v): %v; want %+v", d, err, f)
		}
		for n, x := range norm.Cues {
			y := d.Cues[n]
			y.Text, _ = style.Norm(y.Text)
			if !sameCue(x, y) {
				t.Fatalf("Norm(%+v): %+v", d, norm)
			}
		}
	}
	if right < 4000 || right > 16000 {
		t.Errorf("%d of 20000 are right: the documents try too little", right)
	}
}

// TestSortWords: P902 by the words, of times that are often the same.
func TestSortWords(t *testing.T) {
	m := newMaker(2)
	for range 3000 {
		var l []api.Cue
		for n := range m.dice.IntN(40) {
			from := m.dice.Int64N(4)
			l = append(l, but(at(r(from, 3), r(from+1+m.dice.Int64N(3), 3), "x"), func(x *api.Cue) { x.Lane = n }))
		}
		if got := cue.Sort(l); !sameDoc(doc(got...), doc(sortWords(l)...)) {
			t.Fatalf("Sort(%+v): %+v", l, got)
		}
		for _, x := range l {
			for _, y := range l {
				if got := cue.Compare(x, y); (got == 1) != behind(x, y) || (got == -1) != behind(y, x) || got < -1 || got > 1 {
					t.Fatalf("Compare(%+v, %+v): %d", x, y, got)
				}
			}
		}
	}
}

// TestSameWords: P903 by the words, of documents that are nearly the same.
func TestSameWords(t *testing.T) {
	m, alike := newMaker(3), 0
	for range 20000 {
		x := m.doc(3)
		y := cue.Twin(x)
		if len(y.Cues) > 0 {
			z := &y.Cues[m.dice.IntN(len(y.Cues))]
			switch m.dice.IntN(6) {
			case 0:
				z.Lane = m.dice.IntN(8)
			case 1:
				z.Side = 1 - z.Side
			case 2:
				z.Text, _ = style.Norm(z.Text)
			case 3:
				slices.Reverse(z.Text.Spans)
			case 4:
				z.Text.Spans = append(z.Text.Spans, z.Text.Spans...)
			case 5:
				y = m.spoil(y)
			}
		}
		want := sameWords(x, y)
		if want {
			alike++
		}
		if cue.Same(x, y) != want || cue.Same(y, x) != want {
			t.Fatalf("Same(%+v, %+v): %v; want %v", x, y, !want, want)
		}
	}
	if alike < 5000 || alike > 16000 {
		t.Errorf("%d of 20000 are alike: the documents try too little", alike)
	}
}

// maps are some by which times go any way.
func maps(t *testing.T) []*retime.Map {
	return []*retime.Map{
		made(t, knot(whole(0), whole(0))),
		made(t, knot(whole(0), r(-1, 3))),
		made(t, knot(whole(0), whole(0)), knot(whole(1), r(1001, 1000))),
		made(t, knot(whole(0), whole(0)), knot(whole(2), whole(1)), knot(whole(3), whole(9))),
		made(t, knot(whole(0), whole(1)), knot(whole(360000), whole(359999))),
		made(t, knot(whole(0), whole(0)), knot(whole(1<<20), whole(1<<20+1))),
		made(t, knot(whole(0), whole(-4)), knot(r(1, 2), whole(3)), knot(whole(100), whole(101))),
	}
}

// TestRetimeWords: P904's Retime by the words.
func TestRetimeWords(t *testing.T) {
	m, kinds := newMaker(4), map[api.Errno]int{}
	for range 5000 {
		d := m.spoil(m.doc(4))
		for _, x := range maps(t) {
			got, err := cue.Retime(d, x)
			want, f := retimeWords(d, x)
			if !f.is(err) || !sameDoc(got, want) {
				t.Fatalf("Retime(%+v, %v): %+v, %v; want %+v, %+v", d, x.Knots(), got, err, want, f)
			}
			kinds[f.e]++
		}
	}
	for _, e := range []api.Errno{api.OK, api.ErrBack, api.ErrWide, api.ErrTime, api.ErrOrder} {
		if kinds[e] < 100 {
			t.Errorf("%v only %d times: the documents try too little", e, kinds[e])
		}
	}
}

// TestWithinWords: P905 by the words, of times about the cues' own ones.
func TestWithinWords(t *testing.T) {
	m, some := newMaker(5), 0
	for range 20000 {
		d := m.doc(5)
		if m.dice.IntN(8) == 0 {
			d = m.spoil(d)
		}
		ask := func() api.Ratio {
			if len(d.Cues) > 0 && m.dice.IntN(3) > 0 {
				x := pick(m, d.Cues...)
				return pick(m, x.Start, x.End)
			}
			return m.ratio()
		}
		from, to := ask(), ask()
		want := withinWords(d, from, from, true)
		holdTold(t, "Active", d, gather(cue.Active(d, from)), want)
		some += len(want)
		want = withinWords(d, from, to, false)
		holdTold(t, "Within", d, gather(cue.Within(d, from, to)), want)
		some += len(want)
		if t.Failed() {
			t.Fatalf("%+v, from %v to %v", d, from, to)
		}
	}
	if some < 20000 {
		t.Errorf("only %d cues are told: the documents try too little", some)
	}
}

// holdKeepWords complains if Keep does otherwise than the words.
func holdKeepWords(t *testing.T, d api.Doc, can api.Can) fault {
	t.Helper()
	got, lost, err := cue.Keep(d, can)
	want, l, f := keepWords(d, can)
	if !f.is(err) || !sameDoc(got, want) || !slices.Equal(lost, l) {
		t.Fatalf("Keep(%+v, %+v): %+v, %v, %v; want %+v, %v, %+v", d, can, got, lost, err, want, l, f)
	}
	return f
}

// TestKeepWords: P906 by the words.
func TestKeepWords(t *testing.T) {
	m, told := newMaker(6), 0
	for range 20000 {
		d := m.doc(5)
		if m.dice.IntN(8) == 0 {
			d = m.spoil(d)
		}
		if holdKeepWords(t, d, m.can()).e == api.OK {
			told++
		}
	}
	if told < 12000 {
		t.Errorf("only %d are kept: the documents try too little", told)
	}
}

// TestKeepTimesWords: P906's times by the words: all pairs of small times, and of the last ones, on all coarse grids.
func TestKeepTimesWords(t *testing.T) {
	fractions := func(most int64) []api.Ratio {
		var l []api.Ratio
		for d := int64(1); d <= 6; d++ {
			for n := int64(0); n <= most*d; n++ {
				if x := r(n, d); isRight(x) {
					l = append(l, x)
				}
			}
		}
		return l
	}
	var grids []api.Ratio
	for _, g := range append(fractions(1), r(7, 8), r(7, 9), r(10, 11), r(1001, 24000), r(1, 1000), r(1<<20-1, 1<<20)) {
		if g.N > 0 {
			grids = append(grids, g)
		}
	}
	times := fractions(3)
	for _, grid := range grids {
		for _, x := range times {
			for _, y := range times {
				if rat(x).Cmp(rat(y)) >= 0 {
					continue
				}
				holdKeepWords(t, doc(at(x, y, "")), bare(api.DAngle, grid))
				late := func(x api.Ratio) api.Ratio { return r(360000*x.D-x.N, x.D) }
				holdKeepWords(t, doc(at(late(y), late(x), "")), bare(api.DAngle, grid))
			}
		}
	}
}
