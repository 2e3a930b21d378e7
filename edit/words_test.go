package edit_test

import (
	"fmt"
	"math/big"
	"math/rand/v2"
	"slices"
	"strconv"
	"strings"
	"testing"

	"surtitle/api"
	"surtitle/cue"
	"surtitle/edit"
	"surtitle/style"
	"surtitle/utf"
)

// What stands here says the chapter's table row by row, by big fractions and with whole documents, slowly, to hold the program against.

func rat(x api.Ratio) *big.Rat { return big.NewRat(x.N, x.D) }

// isRight: W4.
func isRight(x api.Ratio) bool {
	if x.D < 1 || x.D > 1<<31 || x.N < -1<<62 || x.N > 1<<62 {
		return false
	}
	return rat(x).Denom().Int64() == x.D
}

// timeWords: W5, and DOC.md's table of errors.
func timeWords(x api.Ratio) api.Errno {
	switch {
	case !isRight(x) || x.D > 1<<20:
		return api.ErrWide
	case x.N < 0 || rat(x).Cmp(big.NewRat(360000, 1)) > 0:
		return api.ErrTime
	}
	return api.OK
}

// addWords: the exact sum of right ones.
func addWords(x, y api.Ratio) (api.Ratio, api.Errno) {
	sum := new(big.Rat).Add(rat(x), rat(y))
	if !sum.Num().IsInt64() || !sum.Denom().IsInt64() {
		return api.Ratio{}, api.ErrWide
	}
	z := r(sum.Num().Int64(), sum.Denom().Int64())
	if !isRight(z) {
		return api.Ratio{}, api.ErrWide
	}
	return z, api.OK
}

// inOrder: W8, of each two cues.
func inOrder(d api.Doc) bool {
	for n, y := range d.Cues {
		for _, x := range d.Cues[:n] {
			if c := rat(x.Start).Cmp(rat(y.Start)); c > 0 || c == 0 && rat(x.End).Cmp(rat(y.End)) > 0 {
				return false
			}
		}
	}
	return true
}

// placeWords: the sign at a place that is told in a unit.
func placeWords(s string, unit, at int) (int, api.Errno) {
	if unit < api.UBytes || unit > api.UPairs {
		return 0, api.ErrKind
	}
	was := 0 // the place in that unit behind the signs so far
	for n, g := range signsWords(s) {
		was += [...]int{api.UBytes: len(g), api.USigns: 1, api.UPairs: 1}[unit]
		if unit == api.UPairs && len(g) == 4 {
			was++
		}
		if at == was {
			return n + 1, api.OK
		}
	}
	switch {
	case at == 0:
		return 0, api.OK
	case at < 0 || at > was:
		return 0, api.ErrArg
	}
	return 0, api.ErrWithin
}

// signsWords: the bytes of each sign.
func signsWords(s string) []string {
	var l []string
	for at := range s {
		l = append(l, s[at:])
	}
	for n := range l {
		if n+1 < len(l) {
			l[n] = l[n][:len(l[n])-len(l[n+1])]
		}
	}
	return l
}

// partWords: a part, by signs.
func partWords(s string, e api.Edit) (int, int, api.Errno) {
	from, f := placeWords(s, e.Unit, e.From)
	to, g := placeWords(s, e.Unit, e.To)
	switch {
	case f != api.OK:
		return 0, 0, f
	case g != api.OK:
		return 0, 0, g
	case e.To < e.From:
		return 0, 0, api.ErrArg
	}
	return from, to, api.OK
}

// editWords: what an edit makes of a right document, or its error, by the rows of the table.
func editWords(d api.Doc, e api.Edit) (api.Doc, api.Errno) {
	after := cue.Twin(d)
	f := rowWords(&after, e)
	if f == api.OK && !inOrder(after) {
		f = api.ErrOrder // the last one of all rows that have it; others keep the order
	}
	if f != api.OK {
		return api.Doc{}, f
	}
	return after, api.OK
}

func rowWords(d *api.Doc, e api.Edit) api.Errno {
	n := len(d.Cues)
	if e.Op < 1 || e.Op > 10 {
		return api.ErrKind
	}
	if e.Op != api.ELay && e.Op != api.EShift && (e.Cue < 0 || e.Cue >= n) {
		return api.ErrArg
	}
	switch e.Op {
	case api.ELay:
		return layWords(d, e)
	case api.ETake:
		d.Cues = slices.Concat(d.Cues[:e.Cue], d.Cues[e.Cue+1:])
		return api.OK
	case api.EShift:
		return shiftWords(d, e)
	case api.ESplit:
		return splitWords(d, e)
	case api.EJoin:
		return joinWords(d, e)
	}
	return oneWords(&d.Cues[e.Cue], e)
}

func layWords(d *api.Doc, e api.Edit) api.Errno {
	if e.Cue < 0 || e.Cue > len(d.Cues) {
		return api.ErrArg
	}
	if f := cue.Check(e.New); f != api.OK {
		return f
	}
	if len(d.Cues) >= 4096 {
		return api.ErrMany
	}
	d.Cues = slices.Concat(d.Cues[:e.Cue], []api.Cue{e.New}, d.Cues[e.Cue:])
	return api.OK
}

// oneWords: the rows of edits that set something of a cue.
func oneWords(c *api.Cue, e api.Edit) (f api.Errno) {
	switch e.Op {
	case api.ETimes:
		for _, x := range []api.Ratio{e.Start, e.End} {
			if f := timeWords(x); f != api.OK {
				return f
			}
		}
		if rat(e.Start).Cmp(rat(e.End)) >= 0 {
			return api.ErrBack
		}
		c.Start, c.End = e.Start, e.End
	case api.EText, api.EStyle:
		from, to, g := partWords(c.Text.S, e)
		if g != api.OK {
			return g
		}
		if e.Op == api.EStyle {
			c.Text, f = style.Set(c.Text, api.Span{From: from, To: to, Kind: e.Kind, Value: e.Value})
			return f
		}
		if f := style.Check(e.Text); f != api.OK {
			return f
		}
		c.Text, f = style.Splice(c.Text, from, to, e.Text)
		return f
	case api.EPlace:
		if e.Lane < 0 || e.Lane > 7 || e.Side < 0 || e.Side > 1 {
			return api.ErrLane
		}
		c.Lane, c.Side = e.Lane, e.Side
	case api.ERename:
		if len(e.Name) > 64 || strings.ContainsFunc(e.Name, func(r rune) bool { return r < 32 }) {
			return api.ErrName
		}
		c.Name = e.Name
	}
	return api.OK
}

func shiftWords(d *api.Doc, e api.Edit) api.Errno {
	if !(0 <= e.Cue && e.Cue <= e.To && e.To <= len(d.Cues)) {
		return api.ErrArg
	}
	if !isRight(e.Start) {
		return api.ErrWide
	}
	for n := e.Cue; n < e.To; n++ {
		for _, x := range []*api.Ratio{&d.Cues[n].Start, &d.Cues[n].End} {
			sum, f := addWords(*x, e.Start)
			switch {
			case f != api.OK:
				return f
			case sum.N < 0:
				return api.ErrBack
			case timeWords(sum) != api.OK:
				return timeWords(sum)
			}
			*x = sum
		}
	}
	return api.OK
}

func splitWords(d *api.Doc, e api.Edit) api.Errno {
	c := d.Cues[e.Cue]
	at, f := placeWords(c.Text.S, e.Unit, e.From)
	if f != api.OK {
		return f
	}
	if f := timeWords(e.Start); f != api.OK {
		return f
	}
	if rat(e.Start).Cmp(rat(c.Start)) <= 0 || rat(e.Start).Cmp(rat(c.End)) >= 0 {
		return api.ErrBack
	}
	if len(d.Cues) >= 4096 {
		return api.ErrMany
	}
	front := api.Cue{Start: c.Start, End: e.Start, Lane: c.Lane, Side: c.Side, Name: c.Name}
	rest := api.Cue{Start: e.Start, End: c.End, Lane: c.Lane, Side: c.Side, Name: c.Name}
	front.Text, _ = style.Cut(c.Text, 0, at)
	rest.Text, _ = style.Cut(c.Text, at, len(signsWords(c.Text.S)))
	d.Cues[e.Cue] = front
	if !inOrder(*d) {
		return api.ErrOrder
	}
	place := 0
	for n, x := range d.Cues {
		if cue.Compare(x, rest) <= 0 {
			place = n + 1
		}
	}
	d.Cues = slices.Concat(d.Cues[:place], []api.Cue{rest}, d.Cues[place:])
	return api.OK
}

func joinWords(d *api.Doc, e api.Edit) (f api.Errno) {
	if e.Cue+1 == len(d.Cues) {
		return api.ErrArg
	}
	x, y := d.Cues[e.Cue], d.Cues[e.Cue+1]
	if rat(y.End).Cmp(rat(x.End)) > 0 {
		x.End = y.End
	}
	x.Text, f = style.Join(x.Text, y.Text)
	d.Cues = slices.Concat(d.Cues[:e.Cue], []api.Cue{x}, d.Cues[e.Cue+2:])
	return f
}

// logWords is a log as the words say it: all documents that can be gone back and forth to, and at which one it is.
type logWords struct {
	docs []api.Doc
	at   int
}

func (l *logWords) do(e api.Edit) api.Errno {
	d, f := editWords(l.docs[l.at], e)
	if f != api.OK {
		return f
	}
	l.docs = append(slices.Clone(l.docs[:l.at+1]), d)
	l.docs = l.docs[max(0, len(l.docs)-1025):]
	l.at = len(l.docs) - 1
	return api.OK
}

func (l *logWords) move(by int) api.Errno {
	if l.at+by < 0 || l.at+by >= len(l.docs) {
		return api.ErrNone
	}
	l.at += by
	return api.OK
}

// hold complains if a log is not what the words say.
func (l *logWords) hold(t *testing.T, what string, got *edit.Log) {
	t.Helper()
	if d := got.Doc(); !sameDoc(d, l.docs[l.at]) || got.Done() != l.at || got.Undone() != len(l.docs)-1-l.at {
		t.Fatalf("%v: %s, %d, %d; want %s, %d, %d", what, say(d), got.Done(), got.Undone(), say(l.docs[l.at]), l.at, len(l.docs)-1-l.at)
	}
}

// maker makes things by chance, the same each time.
type maker struct{ dice *rand.Rand }

func newMaker(seed uint64) maker { return maker{rand.New(rand.NewPCG(seed, 20))} }

func (m maker) half() bool { return m.one(2) }

// one tells whether it comes to that: once in so many.
func (m maker) one(in int) bool { return m.dice.IntN(in) == 0 }

// pick is one of some.
func pick[T any](m maker, l ...T) T { return l[m.dice.IntN(len(l))] }

func (m maker) string(most int) string {
	s := ""
	for range m.dice.IntN(most + 1) {
		s += pick(m, "a", "b", " ", "é", "\n", "中", "\U0001f600", "\xc3", "\xa9", "\xe2\x82", "\xac", "\x00")
	}
	return s
}

// spans are some that do not cross, in any order.
func (m maker) spans(from, to, many int) []api.Span {
	if many == 0 || from >= to {
		return nil
	}
	x := api.Span{From: from + m.dice.IntN(to-from), To: to, Kind: 1 + m.dice.IntN(5)}
	x.To -= m.dice.IntN(to - x.From)
	if x.Kind == api.KColour {
		x.Value = m.dice.IntN(3)
	}
	l := slices.Concat(m.spans(x.From, x.To, many/2), m.spans(from, x.From, many/3), m.spans(x.To, to, many/3))
	return slices.Insert(l, m.dice.IntN(len(l)+1), x)
}

// text is a right one, now and then one that is nearly too long, or has nearly too many spans.
func (m maker) text() api.Text {
	x := api.Text{S: m.string(6)}
	if m.one(40) {
		return api.Text{S: "a" + x.S, Spans: heap(256 - m.dice.IntN(3))}
	}
	if m.one(40) {
		return api.Text{S: strings.Repeat("x", 600), Spans: comb(256 - m.dice.IntN(3))}
	}
	if m.one(40) {
		x.S += strings.Repeat("x", 4096-len(x.S)-m.dice.IntN(3))
	}
	x.Spans = m.spans(0, len([]rune(x.S)), m.dice.IntN(8))
	return x
}

// clock is how times are made: of which parts of a second, how many from where on.
type clock struct{ parts, from, most int64 }

func (m maker) clock() clock {
	return pick(m, clock{1, 0, 6}, clock{1, 0, 12}, clock{2, 0, 9}, clock{1001, 0, 3000}, clock{1 << 20, 0, 9}, clock{1<<20 - 1, 0, 5000}, clock{3, 360000*3 - 12, 12})
}

func (m maker) time(c clock) api.Ratio {
	x := big.NewRat(c.from+m.dice.Int64N(c.most+1), c.parts)
	return r(x.Num().Int64(), x.Denom().Int64())
}

// stretch is two times, the lesser one first.
func (m maker) stretch(c clock) (from, to api.Ratio) {
	for from == to {
		from, to = m.time(c), m.time(c)
	}
	if rat(from).Cmp(rat(to)) > 0 {
		return to, from
	}
	return from, to
}

func (m maker) cue(c clock) api.Cue {
	x := api.Cue{Lane: m.dice.IntN(8), Side: m.dice.IntN(2), Name: pick(m, "", "Ann", "\xc3"), Text: m.text()}
	x.Start, x.End = m.stretch(c)
	return x
}

func (m maker) doc(many int, c clock) api.Doc {
	var l []api.Cue
	for range max(m.dice.IntN(many+1), m.dice.IntN(many+1)) {
		l = append(l, m.cue(c))
	}
	return doc(cue.Sort(l)...)
}

// wild is a ratio that may not be right, or no time.
func (m maker) wild() api.Ratio {
	return pick(m, r(0, 0), r(2, 4), r(1, -1), r(-1, 2), r(1, 1<<20+1), r(-1, 1<<31), r(1, 1<<31), r(360001, 1), r(1<<62, 1), r(-1<<62, 1), r(-1<<63, 1), r(1<<62+1, 1), r(5, 1<<31+1), r(720000*2+1, 4))
}

// edit is one for a document: most often one that may be.
func (m maker) edit(d api.Doc, c clock) api.Edit {
	e := api.Edit{Op: 1 + m.dice.IntN(10), Unit: 1 + m.dice.IntN(3), Text: m.text(), Name: pick(m, "", "Bob", "é")}
	e.Start, e.End = m.stretch(c)
	e.Kind, e.Lane, e.Side, e.New = 1+m.dice.IntN(5), m.dice.IntN(8), m.dice.IntN(2), m.cue(c)
	if e.Kind == api.KColour {
		e.Value = m.dice.IntN(4)
	}
	n := len(d.Cues)
	e.Cue = m.dice.IntN(n + 1)
	if n > 1 && m.half() {
		e.Cue = m.dice.IntN(n - 1) // there is a next one
	}
	switch e.Op {
	case api.ELay:
		if !m.one(4) { // where it fits
			e.Cue = 0
			for n, x := range d.Cues {
				if cue.Compare(x, e.New) < 0 {
					e.Cue = n + 1
				}
			}
		}
	case api.EShift:
		e.To = e.Cue + m.dice.IntN(n-e.Cue+1)
		if !m.one(3) {
			e.Cue, e.To = pick(m, 0, e.Cue), n
		}
		if m.half() {
			e.Start.N = -e.Start.N
		}
	case api.EText, api.EStyle, api.ESplit:
		m.setPart(&e, d)
	}
	m.spoil(&e)
	return e
}

// setPart tells a part of the cue's text, if there is one, and a time within the cue.
func (m maker) setPart(e *api.Edit, d api.Doc) {
	if e.Cue >= len(d.Cues) {
		return
	}
	c := d.Cues[e.Cue]
	most := min(utf.Count(c.Text.S), 9)
	e.From = m.dice.IntN(most + 1)
	e.To = e.From + m.dice.IntN(most-e.From+1)
	if !m.one(5) { // else these are places, too, but of a unit by chance
		e.From, _ = utf.Place(c.Text.S, e.From, api.USigns, e.Unit)
		e.To, _ = utf.Place(c.Text.S, e.To, api.USigns, e.Unit)
	}
	if m.one(9) {
		e.From, e.To = 0, len(c.Text.S)
	}
	if e.Op == api.ESplit && !m.one(3) {
		mid := new(big.Rat).Add(rat(c.Start), rat(c.End))
		mid.Mul(mid, big.NewRat(1, 2))
		e.Start = r(mid.Num().Int64(), mid.Denom().Int64())
	}
}

// spoil makes something of an edit another thing, now and then.
func (m maker) spoil(e *api.Edit) {
	number := func() int { return pick(m, -1, 0, 1, 7, 8, 99, 1<<62, -1<<63, 1<<63-1) }
	for m.one(4) {
		switch m.dice.IntN(14) {
		case 0:
			e.Op = number()
		case 1:
			e.Cue = number()
		case 2:
			e.Unit = pick(m, 0, 4, number())
		case 3:
			e.From = number()
		case 4:
			e.To = number()
		case 5:
			e.Kind = pick(m, 0, 6, 5, 1)
		case 6:
			e.Value = pick(m, -1, 1, 0xFFFFFF, 0x1000000)
		case 7:
			e.Start = m.wild()
		case 8:
			e.End = pick(m, e.Start, r(0, 1), m.wild())
		case 9:
			e.Lane = number()
		case 10:
			e.Side = number()
		case 11:
			e.Name = pick(m, "\n", "a\x1f", strings.Repeat("n", 64), strings.Repeat("n", 65))
		case 12:
			e.Text.Spans = append(e.Text.Spans, pick(m, api.Span{From: 0, To: 9, Kind: 1}, api.Span{From: 0, To: 1, Kind: 1}))
		default:
			m.spoilCue(&e.New)
		}
	}
}

func (m maker) spoilCue(x *api.Cue) {
	switch m.dice.IntN(6) {
	case 0:
		x.Start = m.wild()
	case 1:
		x.End = pick(m, x.Start, m.wild())
	case 2:
		x.Lane = pick(m, -1, 8)
	case 3:
		x.Name = "\n"
	case 4:
		x.Text.S += strings.Repeat("x", 4097)
	default:
		x.Text.Spans = append(x.Text.Spans, api.Span{From: 1, To: 1, Kind: 1})
	}
}

// rowErrors are the errors that the table's rows name, but those by which a chance document is never refused.
func rowErrors() map[int][]api.Errno {
	return map[int][]api.Errno{
		api.ELay:    {api.OK, api.ErrArg, api.ErrWide, api.ErrTime, api.ErrBack, api.ErrLane, api.ErrName, api.ErrLong, api.ErrSpan, api.ErrOrder},
		api.ETake:   {api.OK, api.ErrArg},
		api.ETimes:  {api.OK, api.ErrArg, api.ErrWide, api.ErrTime, api.ErrBack, api.ErrOrder},
		api.EText:   {api.OK, api.ErrArg, api.ErrKind, api.ErrWithin, api.ErrLong, api.ErrMany, api.ErrSpan, api.ErrSeam},
		api.EStyle:  {api.OK, api.ErrArg, api.ErrKind, api.ErrWithin, api.ErrSpan, api.ErrMany},
		api.EShift:  {api.OK, api.ErrArg, api.ErrWide, api.ErrBack, api.ErrTime, api.ErrOrder},
		api.ESplit:  {api.OK, api.ErrArg, api.ErrKind, api.ErrWithin, api.ErrWide, api.ErrTime, api.ErrBack, api.ErrOrder},
		api.EJoin:   {api.OK, api.ErrArg, api.ErrLong, api.ErrMany, api.ErrSeam},
		api.EPlace:  {api.OK, api.ErrArg, api.ErrLane},
		api.ERename: {api.OK, api.ErrArg, api.ErrName},
	}
}

// say tells a thing, shortened.
func say(x any) string {
	s := fmt.Sprintf("%+v", x)
	return s[:min(len(s), 900)]
}

// TestWords: P2002 and P2005 of chance documents and edits, by the words.
func TestWords(t *testing.T) {
	m, met := newMaker(1), map[[2]int]int{}
	for range 60000 {
		c := m.clock()
		d := m.doc(6, c)
		e := m.edit(d, c)
		want, f := editWords(d, e)
		l := begin(t, d)
		if got := l.Do(e); got != f {
			t.Fatalf("Do(%s) in %s: %v; want %v", say(e), say(d), got, f)
		}
		met[[2]int{e.Op, int(f)}]++
		holdInverse(t, d, e, f)
		if f != api.OK {
			if !sameDoc(l.Doc(), d) || l.Done() != 0 || l.Undone() != 0 {
				t.Fatalf("Do(%s) in %s is refused, and is %s", say(e), say(d), say(l.Doc()))
			}
			continue
		}
		if got := l.Doc(); !sameDoc(got, want) || cue.CheckDoc(got) != nil {
			t.Fatalf("Do(%s) in %s: %s; want %s", say(e), say(d), say(got), say(want))
		}
	}
	for op, l := range rowErrors() {
		for _, f := range l {
			if met[[2]int{op, int(f)}] < 5 {
				t.Errorf("%d: %v only %d times: the edits try too little", op, f, met[[2]int{op, int(f)}])
			}
		}
	}
}

// holdInverse complains if the edits that Inverse tells do not bring a document back, or its error is another one.
func holdInverse(t *testing.T, d api.Doc, e api.Edit, f api.Errno) {
	t.Helper()
	l, g := edit.Inverse(d, e)
	if g != f || len(l) > 3 || f != api.OK && len(l) > 0 {
		t.Fatalf("Inverse(%s, %s): %s, %v; want %v", say(d), say(e), say(l), g, f)
	}
	if f != api.OK {
		return
	}
	x := begin(t, d)
	x.Do(e)
	x = begin(t, x.Doc())
	for n, b := range l {
		if g := x.Do(b); g != api.OK {
			t.Fatalf("Inverse(%s, %s): %d, %s: %v", say(d), say(e), n, say(b), g)
		}
		if !isBare(b) {
			t.Fatalf("Inverse(%s, %s): %s says more than is looked at", say(d), say(e), say(b))
		}
	}
	if !sameDoc(x.Doc(), d) {
		t.Fatalf("Inverse(%s, %s): %s: %s", say(d), say(e), say(l), say(x.Doc()))
	}
}

// isBare: P4: whether an edit has zero values in all fields that its row does not name.
func isBare(e api.Edit) bool {
	x := api.Edit{Op: e.Op, Cue: e.Cue}
	switch e.Op {
	case api.ELay:
		x.New = e.New
	case api.ETimes:
		x.Start, x.End = e.Start, e.End
	case api.EText:
		x.Unit, x.From, x.To, x.Text = e.Unit, e.From, e.To, e.Text
	case api.EStyle:
		x.Unit, x.From, x.To, x.Kind, x.Value = e.Unit, e.From, e.To, e.Kind, e.Value
	case api.EShift:
		x.To, x.Start = e.To, e.Start
	case api.ESplit:
		x.Unit, x.From, x.Start = e.Unit, e.From, e.Start
	case api.EPlace:
		x.Lane, x.Side = e.Lane, e.Side
	case api.ERename:
		x.Name = e.Name
	}
	return fmt.Sprintf("%#v", x) == fmt.Sprintf("%#v", e)
}

// TestWordsLog: P2002 to P2004 and P2006 of logs that are gone back and forth in, and of their twins, by the words.
func TestWordsLog(t *testing.T) {
	m := newMaker(2)
	met := map[string]int{}
	for range 300 {
		c := m.clock()
		d := m.doc(5, c)
		logs, words := []*edit.Log{begin(t, d)}, []*logWords{{docs: []api.Doc{cue.Twin(d)}}}
		for range 120 {
			n := m.dice.IntN(len(logs))
			l, w := logs[n], words[n]
			switch m.dice.IntN(8) {
			case 0, 1:
				if f, want := l.Undo(), w.move(-1); f != want {
					t.Fatalf("Undo: %v; want %v", f, want)
				}
				met["undone"]++
			case 2:
				if f, want := l.Redo(), w.move(1); f != want {
					t.Fatalf("Redo: %v; want %v", f, want)
				} else if f == api.OK {
					met["done again"]++
				}
			case 3:
				if len(logs) < 4 && m.one(3) {
					logs, words = append(logs, l.Twin()), append(words, &logWords{slices.Clone(w.docs), w.at})
				}
			default:
				e := m.edit(w.docs[w.at], c)
				if f, want := l.Do(e), w.do(e); f != want {
					t.Fatalf("Do(%s): %v; want %v", say(e), f, want)
				}
			}
			for n, w := range words {
				w.hold(t, strconv.Itoa(n), logs[n])
			}
		}
		met["twins"] += len(logs) - 1
	}
	if met["undone"] < 5000 || met["done again"] < 1000 || met["twins"] < 300 {
		t.Errorf("%v: the logs try too little", met)
	}
}

// TestWordsLong: P2002, P2003: a log of more edits than can be undone, gone back and forth in, by the words.
func TestWordsLong(t *testing.T) {
	m := newMaker(3)
	c := clock{2, 0, 20}
	d := doc()
	l, w := begin(t, d), &logWords{docs: []api.Doc{d}}
	full := 0
	for range 9000 {
		switch {
		case m.one(900):
			for range m.dice.IntN(1100) {
				if f, want := l.Undo(), w.move(-1); f != want {
					t.Fatalf("Undo: %v; want %v", f, want)
				}
			}
		case m.one(900):
			for range m.dice.IntN(1100) {
				if f, want := l.Redo(), w.move(1); f != want {
					t.Fatalf("Redo: %v; want %v", f, want)
				}
			}
		default:
			e := m.edit(w.docs[w.at], c)
			if len(w.docs[w.at].Cues) > 6 && !m.one(3) {
				e = api.Edit{Op: pick(m, api.ETake, api.EJoin)}
			}
			if f, want := l.Do(e), w.do(e); f != want {
				t.Fatalf("Do(%s): %v; want %v", say(e), f, want)
			}
		}
		if l.Done() == 1024 {
			full++
		}
		w.hold(t, "long", l)
	}
	if full < 500 {
		t.Errorf("full only %d times: the log tries too little", full)
	}
}
