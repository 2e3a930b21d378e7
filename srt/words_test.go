package srt_test

import (
	"math/big"
	"math/rand/v2"
	"regexp"
	"slices"
	"strconv"
	"strings"
	"testing"

	"surtitle/api"
	"surtitle/code"
	"surtitle/cue"
	"surtitle/mark"
	"surtitle/srt"
)

// What stands here says the chapter's words once more, by all lines and blocks of a file at once, to hold the program against.

// splitWords tells the lines of a file (P105), from number 1 on.
func splitWords(s string) []string {
	s = strings.ReplaceAll(strings.ReplaceAll(s, "\r\n", "\n"), "\r", "\n")
	return append([]string{"no line"}, strings.Split(strings.TrimSuffix(s, "\n"), "\n")...)
}

// longWords tells the line in which the byte behind the first MaxFile ones stands; 0: there is none. late: it is an LF behind a CR.
func longWords(s string) (line int, late bool) {
	if len(s) <= 1<<22 {
		return 0, false
	}
	ahead := s[:1<<22]
	ends := strings.Count(ahead, "\n") + strings.Count(ahead, "\r") - strings.Count(ahead, "\r\n")
	return ends + 1, strings.HasSuffix(ahead, "\r") && s[1<<22] == '\n'
}

// blockWords is a row of lines that are not empty: their numbers.
type blockWords struct{ first, last int }

func blocksWords(lines []string) []blockWords {
	var l []blockWords
	for n := 1; n < len(lines); n++ {
		switch {
		case lines[n] == "":
		case n > 1 && lines[n-1] != "":
			l[len(l)-1].last = n
		default:
			l = append(l, blockWords{n, n})
		}
	}
	return l
}

var numberWords = regexp.MustCompile(`^[0-9]{1,9}$`)

// timesWords: P1403, 4: the line of times of the cue behind those ahead.
func timesWords(line string, n int, ahead []api.Cue) (api.Cue, api.Fault) {
	var c api.Cue
	at := strings.Index(line, " --> ")
	if at < 0 {
		return c, api.Fault{Err: api.ErrLine, Line: n, Col: 1}
	}
	from := at + 5
	to := from
	for to < len(line) && line[to] != ' ' {
		to++
	}
	var e api.Errno
	if c.Start, e = code.ParseClock(api.FSrt, line[:at]); e != api.OK {
		return c, api.Fault{Err: api.ErrTime, Line: n, Col: 1}
	}
	if c.End, e = code.ParseClock(api.FSrt, line[from:to]); e != api.OK {
		return c, api.Fault{Err: api.ErrTime, Line: n, Col: len([]rune(line[:from])) + 1}
	}
	all := append(slices.Clone(ahead), c)
	switch {
	case rat(c.Start).Cmp(rat(c.End)) >= 0:
		return c, api.Fault{Err: api.ErrBack, Line: n, Col: 1}
	case !slices.IsSortedFunc(all, compareWords):
		return c, api.Fault{Err: api.ErrOrder, Line: n, Col: 1}
	case len(all) > 4096:
		return c, api.Fault{Err: api.ErrMany, Line: n, Col: 1}
	}
	return c, api.Fault{}
}

func rat(x api.Ratio) *big.Rat { return big.NewRat(x.N, x.D) }

// compareWords: W8's order.
func compareWords(x, y api.Cue) int {
	if n := rat(x.Start).Cmp(rat(y.Start)); n != 0 {
		return n
	}
	return rat(x.End).Cmp(rat(y.End))
}

// cueWords: P1403, 2 to 5: a block's cue, or its first fault; whether its text is read.
func cueWords(lines []string, b blockWords, ahead []api.Cue, reads bool) (api.Cue, api.Fault) {
	if !numberWords.MatchString(lines[b.first]) {
		return api.Cue{}, api.Fault{Err: api.ErrCount, Line: b.first, Col: 1}
	}
	if b.first == b.last {
		return api.Cue{}, api.Fault{Err: api.ErrEnd, Line: b.first + 1, Col: 1}
	}
	c, f := timesWords(lines[b.first+1], b.first+1, ahead)
	if f.Err != api.OK || !reads {
		return c, f
	}
	m, e := mark.Parse(api.DAngle, strings.Join(lines[b.first+2:b.last+1], "\n"))
	if e != api.OK {
		return c, api.Fault{Err: e, Line: b.first + 2, Col: 1}
	}
	c.Text = m.Text
	return c, api.Fault{}
}

// parseWords: P1403 and P11.
func parseWords(s string) (api.Doc, api.Fault) {
	long, late := longWords(s)
	lines := splitWords(s)
	lines[1] = strings.TrimPrefix(lines[1], "\xef\xbb\xbf")
	var l []api.Cue
	for _, b := range blocksWords(lines) {
		// The LF behind a CR is a byte of the line behind: that line is no empty one.
		within := long > 0 && (long <= b.last || late && long == b.last+1)
		c, f := cueWords(lines, b, l, !within)
		switch {
		case f.Err != api.OK && (long == 0 || f.Line < long):
			return doc(l...), f
		case f.Err != api.OK, within:
			return doc(l...), api.Fault{Err: api.ErrLong, Line: long, Col: 1}
		}
		l = append(l, c)
	}
	if long > 0 {
		return doc(l...), api.Fault{Err: api.ErrLong, Line: long, Col: 1}
	}
	return doc(l...), api.Fault{}
}

// writeWords: P1402 of what was kept.
func writeWords(d api.Doc) string {
	s := ""
	for n, c := range d.Cues {
		s += strconv.Itoa(n+1) + "\n" + clockWords(c.Start) + " --> " + clockWords(c.End) + "\n"
		if text, _ := mark.Print(api.DAngle, mark.Marked{Text: c.Text}); len(text) > 0 {
			s += text + "\n"
		}
		s += "\n"
	}
	return s
}

func clockWords(t api.Ratio) string {
	ms := new(big.Rat).Mul(rat(t), big.NewRat(1000, 1)).Num().Int64()
	part := func(n int64, digits int) string {
		s := strconv.FormatInt(n, 10)
		return strings.Repeat("0", max(digits-len(s), 0)) + s
	}
	return part(ms/3600000, 2) + ":" + part(ms/60000%60, 2) + ":" + part(ms/1000%60, 2) + "," + part(ms%1000, 3)
}

// maker makes things by chance, the same each time.
type maker struct{ dice *rand.Rand }

func newMaker(seed uint64) maker { return maker{rand.New(rand.NewPCG(seed, 14))} }

func (m maker) half() bool { return m.dice.IntN(2) == 0 }

// one tells whether it comes to that: once in so many.
func (m maker) one(in int) bool { return m.dice.IntN(in) == 0 }

// pick is one of some.
func pick[T any](m maker, l ...T) T { return l[m.dice.IntN(len(l))] }

// parts are some of these, one behind the other.
func (m maker) parts(many int, l ...string) string {
	s := ""
	for range m.dice.IntN(many + 1) {
		s += pick(m, l...)
	}
	return s
}

// text is a right one.
func (m maker) text() api.Text {
	x := api.Text{S: m.parts(9, "a", "bc", " ", "é", "\n", "\n", "\r", "中", "\U0001f600", "\xc3", "\xa9", "\xff", "\x00", "<", ">", "<b>", "1", " --> ", "\ufeff")}
	n := len([]rune(x.S))
	for range m.dice.IntN(4) {
		from := m.dice.IntN(n + 1)
		y := api.Span{From: from, To: from + m.dice.IntN(n-from+1), Kind: 1 + m.dice.IntN(5)}
		if y.Kind == api.KColour {
			y.Value = m.dice.IntN(0x1000000)
		}
		apart := func(z api.Span) bool {
			return y.To <= z.From || z.To <= y.From || y.From <= z.From && z.To <= y.To || z.From <= y.From && y.To <= z.To
		}
		if y.From < y.To && !slices.ContainsFunc(x.Spans, func(z api.Span) bool { return !apart(z) }) {
			x.Spans = append(x.Spans, y)
		}
	}
	return x
}

// time is one of few, so that many fall together.
func (m maker) time() api.Ratio {
	d := pick[int64](m, 1, 2, 1000, 1000, 24000, 1<<20, 1<<20-1)
	n := m.dice.Int64N(5*d + 1)
	if m.one(6) {
		n = m.dice.Int64N(360000*d + 1)
	}
	if m.one(12) {
		n = 360000*d - m.dice.Int64N(3)
	}
	x := big.NewRat(n, d)
	return r(x.Num().Int64(), x.Denom().Int64())
}

// cue is a right one.
func (m maker) cue() api.Cue {
	x := api.Cue{Start: m.time(), End: m.time(), Text: m.text()}
	if m.one(4) {
		x.Lane, x.Side, x.Name = m.dice.IntN(8), m.dice.IntN(2), pick(m, "", "Ann", "Bob")
	}
	for x.Start == x.End {
		x.End = m.time()
	}
	if rat(x.Start).Cmp(rat(x.End)) > 0 {
		x.Start, x.End = x.End, x.Start
	}
	return x
}

// doc is a right one of up to so many cues.
func (m maker) doc(many int) api.Doc {
	var l []api.Cue
	for range m.dice.IntN(many + 1) {
		l = append(l, m.cue())
	}
	return doc(cue.Sort(l)...)
}

// clock is one of a file, most times a right one.
func (m maker) clock(seconds int) string {
	s := clockWords(r(int64(seconds)*1000+m.dice.Int64N(2), 1000))
	if m.one(150) {
		return pick(m, "", "0:00:01,000", "00:00:01.000", "00:00:61,000", "é", "100:00:00,000", "100:00:00,001", s+"x", s[1:])
	}
	return s
}

// block is the lines of one of a file, most times a right one, that begins about that second.
func (m maker) block(second int) []string {
	l := []string{strconv.Itoa(m.dice.IntN(1000000000))}
	if m.one(80) {
		l[0] = pick(m, "x", " 1", "1 ", "1234567890", "\ufeff1", "-1", "é", "\xff", "٣")
	}
	if m.one(80) {
		return l
	}
	arrow, long := " --> ", 1+m.dice.IntN(3)
	if m.one(80) {
		arrow = pick(m, " -> ", "-->", " -->\t", " -->")
	}
	if m.one(80) {
		long = -m.dice.IntN(2)
	}
	line := m.clock(second) + arrow + m.clock(second+long)
	if m.one(4) {
		line += pick(m, " ", " X1:10 Y2:3", " --> 00:00:00,000", "  x", " é\xff")
	}
	l = append(l, line)
	for range m.dice.IntN(4) {
		s := m.parts(6, "a", "b c", "<b>", "</b>", "<i>", "</i>", "<font color=\"#00ff7F\">", "</font>", "<", "é", "\xc3", "\xa9", "\x00", "{\\b1}", "&lt;", "|")
		switch {
		case m.one(150):
			s = strings.Repeat("x", 4090+m.dice.IntN(12))
		case m.one(150):
			s = strings.Repeat("<b>x</b>y", 254+m.dice.IntN(5))
		}
		if s != "" {
			l = append(l, s)
		}
	}
	return l
}

// blocks are those of a file.
func (m maker) blocks(many int) [][]string {
	var l [][]string
	second := 0
	for range m.dice.IntN(many + 1) {
		l = append(l, m.block(second))
		second += pick(m, 0, 1, 1, 2, 3)
		if m.one(30) {
			second = 0
		}
	}
	return l
}

// file is one of some blocks, with line ends of one kind or of all.
func (m maker) file(many int) string {
	end := func() string { return "\n" }
	if m.half() {
		end = func() string { return pick(m, "\n", "\r\n", "\r") }
	}
	s := ""
	if m.one(8) {
		s += "\ufeff"
	}
	for _, lines := range m.blocks(many) {
		for range m.dice.IntN(3) {
			s += end()
		}
		for _, line := range lines {
			s += line + end()
		}
		if !m.one(20) {
			s += end()
		}
	}
	if m.one(3) {
		s = strings.TrimRight(s, "\r\n")
	}
	return s
}

// holdParse complains if Parse does otherwise than the words; it tells the fault.
func holdParse(t *testing.T, s string) api.Fault {
	t.Helper()
	d, f := srt.Parse([]byte(s))
	want, fault := parseWords(s)
	if f != fault || !sameDoc(d, want) {
		t.Fatalf("Parse(.. %.300q): %+v, %v; want %+v, %v", s[max(len(s)-300, 0):], d, f, want, fault)
	}
	return f
}

// TestParseWords: P1403 of files of blocks, by the words.
func TestParseWords(t *testing.T) {
	m, seen := newMaker(1), map[api.Errno]int{}
	for range 30000 {
		seen[holdParse(t, m.file(pick(m, 2, 6, 20))).Err]++
	}
	for _, e := range []api.Errno{api.OK, api.ErrCount, api.ErrEnd, api.ErrLine, api.ErrTime, api.ErrBack, api.ErrOrder, api.ErrLong, api.ErrMany} {
		if seen[e] < 100 {
			t.Errorf("%v only %d times: the files try too little", e, seen[e])
		}
	}
}

// TestParseAnyBytes: P1403 of files of which bytes are others, are gone, are twice there, and of any bytes, by the words.
func TestParseAnyBytes(t *testing.T) {
	m := newMaker(2)
	const bytes = "\n\r\n\r\n 19:,->x<b/\xef\xbb\xbf\x00"
	for range 40000 {
		b := []byte(m.file(3))
		for range m.dice.IntN(3) {
			at := m.dice.IntN(len(b) + 1)
			switch to := min(len(b), at+m.dice.IntN(4)); m.dice.IntN(3) {
			case 0:
				b = slices.Delete(b, at, to)
			case 1:
				b = slices.Insert(b, at, b[at:to]...)
			default:
				b = slices.Insert(b, at, bytes[m.dice.IntN(len(bytes))])
			}
		}
		if m.one(10) {
			b = nil
			for range m.dice.IntN(20) {
				b = append(b, bytes[m.dice.IntN(len(bytes))])
			}
		}
		holdParse(t, string(b))
	}
}

// TestParseShort: P1403 of all files of few parts, by the words.
func TestParseShort(t *testing.T) {
	l := []string{"\n", "\r", "\r\n", "1", "\ufeff", "00:00:01,000", " --> ", "00:00:02,000", " ", "<b>", "x"}
	var all func(s string, more int)
	all = func(s string, more int) {
		holdParse(t, s)
		for _, part := range l {
			if more > 0 {
				all(s+part, more-1)
			}
		}
	}
	all("", 4)
	all("1\n00:00:01,000 --> 00:00:02,000", 4)
	all("1\n00:00:01,000 --> 00:00:02,000\n<b>x</b>\n\n1\n00:00:01,000 --> 00:00:02,000", 3)
}

// padded is a file of so many bytes: a cue with long places on the screen, and the empty line behind it.
func padded(size int) string {
	const head = "1\n00:00:01,000 --> 00:00:02,000 "
	return head + strings.Repeat("x", size-len(head)-2) + "\n\n"
}

// TestParseLong: P1403: the line at which a file is too long, wherever that is in it, by the words.
func TestParseLong(t *testing.T) {
	seen := map[api.Errno]int{}
	for _, tail := range []string{
		"2\n00:00:01,000 --> 00:00:02,000\na\nb\n\n\n3\n00:00:03,000 --> 00:00:04,000\n\n",
		"\r\n2\r\n00:00:01,000 --> 00:00:02,000\r\na\r\nb\r\n\r\n\r\n3\r\n00:00:03,000 --> 00:00:04,000\r\n\r\n",
		"2\r00:00:01,000 --> 00:00:02,000 x\ra\rb\r\r\r\n\n",
		"x\ny\n\n", "x\r\ny\r\n\r\n", "2\n\n", "2\r\n\r\n", "2\r\r", "2\nx\n\n",
		"2\r\n00:00:01,000 --> 0\r\n\r\n",
		"2\r\n00:00:01,000 --> 00:00:01,000\r\n\r\n",
		"2\n00:00:00,000 --> 00:00:01,000\n\n",
		"\n\n\r\n\r\n\r\r",
	} {
		for at := range len(tail) + 1 {
			seen[holdParse(t, padded(1<<22-at)+tail).Err]++
			// The bytes behind the one that is too many tell nothing more; without them a line may end, or the file.
			if at < len(tail) {
				seen[holdParse(t, padded(1<<22-at)+tail[:at+1]).Err]++
			}
		}
	}
	for _, e := range []api.Errno{api.OK, api.ErrCount, api.ErrEnd, api.ErrLine, api.ErrTime, api.ErrBack, api.ErrOrder, api.ErrLong} {
		if seen[e] < 2 {
			t.Errorf("%v only %d times: the files try too little", e, seen[e])
		}
	}
}

// TestParseLongText: P1403: a text with a fault, and the file too long in it, at its end and behind it.
func TestParseLongText(t *testing.T) {
	for _, text := range []string{strings.Repeat("x", 4097), strings.Repeat("<b>x</b>y", 257)} {
		for _, end := range []string{"\n", "\r", "\r\n"} {
			tail := strings.Join([]string{"2", "00:00:01,000 --> 00:00:02,000", text, "a", "", "3"}, end)
			for _, behind := range []int{1, 2, 3, 4, 5, 6, 7, 8, 9, 10, 100, len(text), len(text) + 9, len(text) + 40, len(tail)} {
				at := len(tail) - min(behind, len(tail))
				holdParse(t, padded(1<<22-at)+tail)
				holdParse(t, padded(1<<22-at)+tail[:at+1])
			}
		}
	}
}

// TestLongPlaces: P1403: the place of ErrLong, and the cues ahead of it, said one by one.
func TestLongPlaces(t *testing.T) {
	const most = 1 << 22
	block := func(end string) string {
		return "1" + end + "00:00:01,000 --> 00:00:02,000" + end + "a" + end
	}
	// of lines, each empty, up to the end of the bytes that may be
	empty := func(s string, behind string) string {
		return s + strings.Repeat("\n", most-len(s)-len(behind)) + behind
	}
	for n, x := range []struct {
		s    string
		line int
		cues int
	}{
		{empty("", "") + "\n", most + 1, 0},
		{empty("", "") + "x", most + 1, 0},
		{empty("", "\r") + "\n", most + 1, 0},
		{empty("", "\r") + "\nx", most + 1, 0},
		{empty("", "\r") + "\r", most + 1, 0},
		{empty("", "\r\n") + "\n", most, 0},
		{empty("", "1") + "\n", most, 0},
		{empty("", "1") + "\r\n", most, 0},
		{empty("", "1\r") + "\n", most, 0},
		{empty("", "1\n") + "\n", most, 0},
		{empty("", "x") + "x", most, 0},
		{empty("\ufeff", "") + "\n", most - 2, 0},
		{empty(block("\n"), "") + "\n", most - len(block("\n")) + 4, 1},
		// the byte is the end of an empty line: the block ahead is whole
		{empty("", block("\n")) + "\n", most - len(block("\n")) + 4, 1},
		{empty("", block("\n")) + "\r\n", most - len(block("\n")) + 4, 1},
		{empty("", block("\r")) + "\r", most - len(block("\n")) + 4, 1},
		// it goes on with the block, or may do so
		{empty("", block("\n")) + "x", most - len(block("\n")) + 4, 0},
		{empty("", block("\r")) + "\n", most - len(block("\n")) + 4, 0},
		{empty("", block("\r")) + "\n\n", most - len(block("\n")) + 4, 0},
		{empty("", block("\r")) + "\nx", most - len(block("\n")) + 4, 0},
		{empty("", strings.TrimSpace(block("\n"))) + "\n", most - len(block("\n")) + 4, 0},
		{empty("", strings.TrimSpace(block("\n"))) + "a", most - len(block("\n")) + 4, 0},
	} {
		d, f := srt.Parse([]byte(x.s))
		if f != (api.Fault{Err: api.ErrLong, Line: x.line, Col: 1}) || len(d.Cues) != x.cues {
			t.Errorf("%d: %d, %v; want %d, line %d", n, len(d.Cues), f, x.cues, x.line)
		}
		if _, f := srt.Parse([]byte(x.s[:most])); f.Err == api.ErrLong {
			t.Errorf("%d: %v", n, f)
		}
	}
}

// TestWriteWords: P1401, P1402 of right documents, by the words.
func TestWriteWords(t *testing.T) {
	m, lossy := newMaker(3), 0
	can := api.Can{Dialect: api.DAngle, Grid: r(1, 1000)}
	for range 10000 {
		d := m.doc(6)
		kept, lost, err := cue.Keep(d, can)
		got, lost1, err1 := srt.Keep(d)
		if err != nil || err1 != nil || !sameDoc(got, kept) || !slices.Equal(lost, lost1) {
			t.Fatalf("Keep(%+v): %+v, %v, %v; want %+v, %v, %v", d, got, lost1, err1, kept, lost, err)
		}
		b, lost2, err2 := srt.Write(d)
		if err2 != nil || string(b) != writeWords(kept) || !slices.Equal(lost, lost2) {
			t.Fatalf("Write(%+v): %q, %v, %v; want %q, %v", d, b, lost2, err2, writeWords(kept), lost)
		}
		if len(lost) > 0 {
			lossy++
		}
	}
	if lossy < 3000 || lossy > 9700 {
		t.Errorf("%d of 10000 lose something: the documents try too little", lossy)
	}
}
