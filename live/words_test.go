package live_test

import (
	"fmt"
	"math/big"
	"math/rand/v2"
	"slices"
	"strings"
	"testing"

	"surtitle/api"
	"surtitle/bidi"
	"surtitle/cue"
	"surtitle/edit"
	"surtitle/live"
	"surtitle/srt"
	"surtitle/sweep"
	"surtitle/vtt"
	"surtitle/wrap"
)

// What stands here says the chapter's words once more, of all bytes so far and of whole documents, slowly, to hold the program against.

func parseWords(format int, b []byte) (api.Doc, api.Fault) {
	if format == api.FVtt {
		return vtt.Parse(b)
	}
	return srt.Parse(b)
}

// wholeWords: how many bytes there are up to the end of the last whole line, of the last empty one. A CR is an end, whatever comes behind it.
func wholeWords(s []byte) (whole, parted int) {
	for at, x := range s {
		switch {
		case x == '\n' && at > 0 && s[at-1] == '\r':
			if parted == at {
				parted = at + 1
			}
		case x != '\n' && x != '\r':
			continue
		case at == whole || whole == 0 && string(s[:at]) == "\ufeff":
			parted = at + 1
		}
		whole = at + 1
	}
	return whole, parted
}

// toldWords: P2102: how many cues were told, and which fault, by all calls up to the one with which these bytes were there, or the file was ended.
func toldWords(format int, b []byte, ended bool) (int, api.Fault) {
	if ended || len(b) > api.MaxFile {
		d, f := parseWords(format, b)
		return len(d.Cues), f
	}
	whole, parted := wholeWords(b)
	many := 0
	if parted > 0 {
		d, f := parseWords(format, b[:parted])
		many = len(d.Cues)
		if f.Err != api.OK {
			return many, f
		}
	}
	if whole == 0 {
		return many, api.Fault{}
	}
	_, f := parseWords(format, b[:whole])
	// A block that is not at its end may go on; its text is read by then.
	ofText := f.Err == api.ErrLong || f.Err == api.ErrMany && many < api.MaxCues
	if f.Err == api.ErrEnd || ofText {
		f = api.Fault{}
	}
	return many, f
}

// feeding is a reader, and what was fed to it.
type feeding struct {
	t      *testing.T
	format int
	r      *live.Reader
	fed    []byte
	ended  bool
	cues   []api.Cue // that were told
	fault  api.Fault
}

func newFeeding(t *testing.T, format int) *feeding {
	t.Helper()
	r, e := live.NewReader(format)
	if e != api.OK || r == nil {
		t.Fatal(format, e)
	}
	return &feeding{t: t, format: format, r: r}
}

// feed feeds a piece, and complains if what is told is not what the words tell.
func (x *feeding) feed(piece string) {
	x.t.Helper()
	l, f := x.r.Feed([]byte(piece))
	if !x.ended {
		x.fed = append(x.fed, piece...)
	}
	x.hold(fmt.Sprintf("piece %.80q", piece), l, f)
}

func (x *feeding) end() {
	x.t.Helper()
	l, f := x.r.End()
	x.ended = true
	x.hold("End", l, f)
}

func (x *feeding) hold(by string, l []api.Cue, f api.Fault) {
	x.t.Helper()
	if x.fault.Err != api.OK {
		if len(l) > 0 || f != x.fault {
			x.t.Fatalf("by %d, %.300q, %s: %s, %v; the fault was %v", x.format, x.fed, by, say(l), f, x.fault)
		}
		return
	}
	many, want := toldWords(x.format, x.fed, x.ended)
	x.cues = append(x.cues, l...)
	if len(x.cues) != many || f != want {
		x.t.Fatalf("by %d, %.300q, %s: %d cues were told, %v; want %d, %v", x.format, x.fed, by, len(x.cues), f, many, want)
	}
	x.fault = f
	if !x.ended && f.Err == api.OK && len(l) == 0 {
		return
	}
	all, _ := parseWords(x.format, x.fed)
	if len(all.Cues) < many || !sameDoc(doc(x.cues...), doc(all.Cues[:many]...)) {
		x.t.Fatalf("by %d, %.300q, %s: %s; Parse tells %s", x.format, x.fed, by, say(x.cues), say(all.Cues))
	}
}

// holdAll complains if what was told is not what Parse tells of all bytes.
func (x *feeding) holdAll() {
	x.t.Helper()
	d, f := parseWords(x.format, x.fed)
	if f != x.fault || !sameDoc(doc(x.cues...), d) {
		x.t.Fatalf("by %d, %.300q: %s, %v; Parse tells %s, %v", x.format, x.fed, say(x.cues), x.fault, say(d), f)
	}
}

// feedAll feeds bytes in pieces that end at these places, and ends the file.
func feedAll(t *testing.T, format int, s string, cuts ...int) *feeding {
	t.Helper()
	x := newFeeding(t, format)
	from := 0
	for _, to := range append(slices.Sorted(slices.Values(cuts)), len(s)) {
		x.feed(s[from:to])
		from = to
	}
	x.end()
	return x
}

// bytewise are all places of a text.
func bytewise(s string) []int {
	var l []int
	for at := range len(s) {
		l = append(l, at)
	}
	return l
}

// linesWords: P2103: the lines of a text, as they are seen.
func linesWords(s string, width int) []string {
	breaks, _, e := wrap.Wrap(s, width)
	lines, f := wrap.Lines(s, breaks)
	var l []string
	for _, line := range lines {
		seen, g := bidi.Visual(line, bidi.Base(s, 0))
		if e != api.OK || f != api.OK || g != api.OK {
			panic("a right text has no error")
		}
		l = append(l, seen)
	}
	return l
}

func rat(x api.Ratio) *big.Rat { return big.NewRat(x.N, x.D) }

// atWords: P2103: the lines of all cues that are active at a right time.
func atWords(d api.Doc, width int, t api.Ratio) []string {
	var l []string
	for _, c := range d.Cues {
		if rat(c.Start).Cmp(rat(t)) <= 0 && rat(t).Cmp(rat(c.End)) < 0 {
			l = append(l, linesWords(c.Text.S, width)...)
		}
	}
	return l
}

// changedWords: P2104: the numbers of the cues that are other ones than ahead.
func changedWords(was, now api.Doc) []int {
	var l []int
	for n := range now.Cues {
		if n >= len(was.Cues) || say(was.Cues[n]) != say(now.Cues[n]) {
			l = append(l, n)
		}
	}
	return l
}

// holdStage complains if a stage does not tell what is derived from that document.
func holdStage(t *testing.T, s *live.Stage, d api.Doc, width int, asked ...api.Ratio) {
	t.Helper()
	if got := s.Doc(); !sameDoc(got, d) {
		t.Fatalf("Doc: %s; want %s", say(got), say(d))
	}
	want, _ := sweep.Segments(d)
	if got := s.Segments(); say(got) != say(want) {
		t.Fatalf("Segments of %s: %s; want %s", say(d), say(got), say(want))
	}
	for n, c := range d.Cues {
		if got, e := s.Lines(n); e != api.OK || !slices.Equal(got, linesWords(c.Text.S, width)) {
			t.Fatalf("Lines(%d) of %s by %d: %q, %v; want %q", n, say(d), width, got, e, linesWords(c.Text.S, width))
		}
		asked = append(asked, c.Start, c.End)
	}
	for _, n := range []int{-1, len(d.Cues), len(d.Cues) + 1} {
		if got, e := s.Lines(n); e != api.ErrNone || len(got) > 0 {
			t.Fatalf("Lines(%d) of %s: %q, %v", n, say(d), got, e)
		}
	}
	for _, x := range asked {
		if got, e := s.At(x); e != api.OK || !slices.Equal(got, atWords(d, width, x)) {
			t.Fatalf("At(%v) of %s by %d: %q, %v; want %q", x, say(d), width, got, e, atWords(d, width, x))
		}
	}
}

// farmWords: P2105: one document behind the other.
func farmWords(l []api.Doc, edits [][]api.Edit) []api.Doc {
	var all []api.Doc
	for n, d := range l {
		log, err := edit.New(d)
		if err != nil {
			all = append(all, api.Doc{})
			continue
		}
		for _, e := range edits[n] {
			log.Do(e)
		}
		all = append(all, log.Doc())
	}
	return all
}

// maker makes things by chance, the same each time.
type maker struct{ dice *rand.Rand }

func newMaker(seed uint64) maker { return maker{rand.New(rand.NewPCG(seed, 21))} }

func (m maker) half() bool { return m.dice.IntN(2) == 0 }

// one tells whether it comes to that: once in so many.
func (m maker) one(in int) bool { return m.dice.IntN(in) == 0 }

// pick is one of some.
func pick[T any](m maker, l ...T) T { return l[m.dice.IntN(len(l))] }

// parts are some of these, one behind the other.
func (m maker) parts(many int, l ...string) string {
	s := ""
	for range m.dice.IntN(many + 1) {
		s += pick(m, l...)
	}
	return s
}

// clock is one of a file, most times a right one.
func (m maker) clock(format, second int) string {
	point := [...]string{api.FSrt: ",", api.FVtt: "."}[format]
	s := fmt.Sprintf("00:%02d:%02d%s%03d", second/60, second%60, point, m.dice.IntN(2))
	if m.one(150) {
		return pick(m, "", "x", s[1:], s+"0", "100:00:00"+point+"001", strings.Replace(s, point, ";", 1))
	}
	return s
}

// times is a line of them, most times a right one, about that second.
func (m maker) times(format, second int) string {
	arrow, long := " --> ", 1+m.dice.IntN(3)
	if m.one(100) {
		arrow = pick(m, " -> ", "-->", " -->")
	}
	if m.one(100) {
		long = -1
	}
	if m.one(60) {
		second = max(second-5, 0)
	}
	line := m.clock(format, second) + arrow + m.clock(format, max(second+long, 0))
	if m.one(4) {
		line += " line:0"
	}
	if m.one(100) {
		line += pick(m, " ", " x", "x")
	}
	return line
}

// block is the lines of one of a file, most times a right one, about that second.
func (m maker) block(format, second int) []string {
	var l []string
	switch {
	case format == api.FSrt && m.one(60):
		l = append(l, pick(m, "x", "1234567890", "-1", "\ufeff1", " ", "00:00:01,000 --> 00:00:02,000"))
	case format == api.FSrt:
		l = append(l, pick(m, "1", "0", "007", "999999999"))
	case m.one(6):
		l = append(l, pick(m, "NOTE", "NOTE ", "NOTE x --> y"), pick(m, "x", "NOTE", "00:00:09.000 --> 00:00:01.000"))
		return l[:1+m.dice.IntN(2)]
	case m.one(3):
		l = append(l, pick(m, "7", "id", "NOTEs", "\ufeffid", "WEBVTT", " ", "\xc3"))
	}
	if !m.one(60) {
		l = append(l, m.times(format, second))
	}
	for range m.dice.IntN(3) {
		l = append(l, pick(m, "Hi", "<b>a", "b</b>", "é中", "\xc3", "\xa9x", "<v Ann>y", "1", "a --> b", " ", "\ufeff", "NOTE", "&amp;"))
	}
	if m.one(60) {
		l = append(l, pick(m, strings.Repeat("x", 4097), strings.Repeat("<b>x</b>y", 257), strings.Repeat("x", 4096), strings.Repeat("<b>x</b>y", 256)))
	}
	return l
}

// file is one of a format, with any line ends, with a fault as often as not.
func (m maker) file(format int) string {
	var l []string
	if format == api.FVtt && !m.one(30) {
		l = append(l, "WEBVTT")
		if !m.one(40) {
			l = append(l, "")
		}
	}
	for n := range m.dice.IntN(6) {
		l = append(l, m.block(format, 5*n)...)
		for range 1 + m.dice.IntN(5)/3 {
			l = append(l, "")
		}
	}
	ends := pick(m, []string{"\n"}, []string{"\n"}, []string{"\r\n"}, []string{"\r"}, []string{"\n", "\r", "\r\n", "\n\r"})
	s := ""
	for _, line := range l {
		s += line + pick(m, ends...)
	}
	if m.one(3) {
		s = strings.TrimRight(s, "\r\n")
	}
	if m.one(5) {
		at := m.dice.IntN(len(s) + 1)
		s = s[:at] + pick(m, "\n", "\r", "x", "1", "\n\n", "\r\r", "\r\n\r\n", "\ufeff", "-->") + s[min(len(s), at+m.dice.IntN(3)):]
	}
	if m.one(5) {
		s = "\ufeff" + s
	}
	return s
}

// text is a right one.
func (m maker) text() api.Text {
	x := api.Text{S: m.parts(9, "a", "bc", " ", " ", "dd-", "é", "\n", "中", "\U0001f600", "\xc3", "\xa9", "\u05d0\u05d1", "\u0628", "(", ")", "12", "\u0591", "\u2067", "\u2069")}
	if m.one(30) {
		x.S = strings.Repeat(x.S, 4096/max(len(x.S), 60))
	}
	n := len([]rune(x.S))
	for range m.dice.IntN(4) {
		from := m.dice.IntN(n + 1)
		y := api.Span{From: from, To: from + m.dice.IntN(n-from+1), Kind: 1 + m.dice.IntN(4)}
		apart := func(z api.Span) bool {
			return y.To <= z.From || z.To <= y.From || y.From <= z.From && z.To <= y.To || z.From <= y.From && y.To <= z.To
		}
		if y.From < y.To && !slices.ContainsFunc(x.Spans, func(z api.Span) bool { return !apart(z) }) {
			x.Spans = append(x.Spans, y)
		}
	}
	return x
}

// time is one of few, so that many fall together.
func (m maker) time() api.Ratio { return pick(m, r(0, 1), r(1, 2), r(1, 1), r(3, 2), r(2, 1), r(5, 1)) }

// cue is a right one.
func (m maker) cue() api.Cue {
	x := api.Cue{Start: m.time(), End: m.time(), Lane: m.dice.IntN(8), Side: m.dice.IntN(2), Name: pick(m, "", "Ann"), Text: m.text()}
	for x.Start == x.End {
		x.End = m.time()
	}
	if rat(x.Start).Cmp(rat(x.End)) > 0 {
		x.Start, x.End = x.End, x.Start
	}
	return x
}

// doc is a right one of up to so many cues.
func (m maker) doc(many int) api.Doc {
	var l []api.Cue
	for range m.dice.IntN(many + 1) {
		l = append(l, m.cue())
	}
	return doc(cue.Sort(l)...)
}

// edit is one of a document of so many cues; as often as not it is refused.
func (m maker) edit(many int) api.Edit {
	e := api.Edit{Op: m.dice.IntN(11), Cue: m.dice.IntN(many + 1), Unit: 1 + m.dice.IntN(3), Text: m.text(), New: m.cue()}
	e.From = m.dice.IntN(4)
	e.To = e.From + m.dice.IntN(4)
	e.Kind = 1 + m.dice.IntN(4)
	e.Start, e.End = m.time(), m.time()
	e.Lane, e.Side, e.Name = m.dice.IntN(9), m.dice.IntN(2), pick(m, "", "Ann", "Bob", "\n")
	if e.Op == api.EShift {
		e.To = pick(m, many, e.Cue+m.dice.IntN(3))
		e.Start = pick(m, r(1, 2), r(-1, 2), r(1, 4))
	}
	return e
}

// TestReaderWords: P2102, P2106 (T6): files byte by byte, and in pieces by chance, also empty ones.
func TestReaderWords(t *testing.T) {
	m := newMaker(1)
	met := map[api.Errno]int{}
	cues := 0
	for range 10000 {
		format := pick(m, api.FSrt, api.FVtt)
		s := m.file(format)
		cuts := bytewise(s)
		if len(s) > 1000 || m.half() {
			cuts = nil
			for range m.dice.IntN(12) {
				cuts = append(cuts, m.dice.IntN(len(s)+1))
			}
		}
		x := feedAll(t, format, s, cuts...)
		x.holdAll()
		x.feed(pick(m, "", "x", "\n\n1\n00:59:01,000 --> 00:59:02,000\nHi\n\n"))
		x.end()
		met[x.fault.Err]++
		cues += len(x.cues)
	}
	for _, e := range []api.Errno{api.OK, api.ErrHead, api.ErrCount, api.ErrEnd, api.ErrLine, api.ErrTime, api.ErrBack, api.ErrOrder, api.ErrLong, api.ErrMany} {
		if met[e] < 40 {
			t.Errorf("%v only %d times: the files try too little", e, met[e])
		}
	}
	if cues < 6000 {
		t.Errorf("only %d cues: the files try too little", cues)
	}
}

// TestNothingElse: P2102: what is told can't be another one, whatever comes behind.
func TestNothingElse(t *testing.T) {
	m := newMaker(2)
	for range 4000 {
		format := pick(m, api.FSrt, api.FVtt)
		s := m.file(format)
		s = s[:m.dice.IntN(len(s)+1)]
		reader, _ := live.NewReader(format)
		l, f := reader.Feed([]byte(s))
		for range 6 {
			d, g := parseWords(format, []byte(s+m.parts(6, "\n", "\r", "\n\n", "x", "1", "\ufeff", "WEBVTT", "00:00:40.000 --> 00:00:41.000\n", "00:00:40,000 --> 00:00:41,000\n", " --> ")))
			if len(d.Cues) < len(l) || !sameDoc(doc(l...), doc(d.Cues[:len(l)]...)) || f.Err != api.OK && (f != g || len(d.Cues) != len(l)) {
				t.Fatalf("by %d, %q: %s, %v; with more behind it %s, %v", format, s, say(l), f, say(d), g)
			}
		}
	}
}

// TestStageWords: P2103, P2104, P2107 (T7): what a stage tells behind any edits and undos, by the words and by a new stage.
func TestStageWords(t *testing.T) {
	m := newMaker(3)
	met := map[string]int{}
	for range 500 {
		d, width := m.doc(5), pick(m, 2, 3, 6, 10, 40, 200)
		s := begin(t, d, width)
		log, _ := edit.New(d)
		for range 20 {
			was := log.Doc()
			if m.one(4) {
				f, g := s.Undo(), log.Undo()
				if f != g {
					t.Fatalf("Undo: %v; want %v", f, g)
				}
				met["undo "+f.Error()]++
				continue
			}
			e := m.edit(len(was.Cues))
			got, f := s.Do(e)
			g := log.Do(e)
			if f != g || f != api.OK && len(got) > 0 || f == api.OK && !slices.Equal(got, changedWords(was, log.Doc())) {
				t.Fatalf("Do(%s) in %s: %v, %v; want %v, %v", say(e), say(was), got, f, changedWords(was, log.Doc()), g)
			}
			met["do "+f.Error()]++
			met[fmt.Sprint("changed ", min(len(got), 3))]++
		}
		holdStage(t, s, log.Doc(), width, r(-1, 1), r(1, 4), r(1<<62, 1), r(1, 1<<31))
		holdStage(t, begin(t, log.Doc(), width), s.Doc(), width)
	}
	for _, x := range []string{"undo ok", "undo none", "do ok", "do arg", "do order", "do back", "do name", "do lane", "do kind", "changed 1", "changed 2", "changed 3"} {
		if met[x] < 20 {
			t.Errorf("%s only %d times: the edits try too little", x, met[x])
		}
	}
}

// TestFarmWords: P2105 (T11): whatever crew, what is told one behind the other.
func TestFarmWords(t *testing.T) {
	m := newMaker(4)
	for range 300 {
		var l []api.Doc
		var edits [][]api.Edit
		for range m.dice.IntN(20) {
			d := m.doc(4)
			if m.one(5) {
				d.Cues = append(d.Cues, at(whole(9), whole(8), "x"))
			}
			var row []api.Edit
			for range m.dice.IntN(6) {
				row = append(row, m.edit(len(d.Cues)))
			}
			l, edits = append(l, d), append(edits, row)
		}
		want := farmWords(l, edits)
		for crew := 1; crew <= api.MaxCrew; crew++ {
			if got, e := live.Farm(crew, l, edits); e != api.OK || !slices.EqualFunc(got, want, sameDoc) {
				t.Fatalf("%d: %s, %v; want %s", crew, say(got), e, say(want))
			}
		}
	}
}
