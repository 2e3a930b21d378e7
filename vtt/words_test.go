package vtt_test

import (
	"math/big"
	"math/rand/v2"
	"slices"
	"strconv"
	"strings"
	"testing"

	"surtitle/api"
	"surtitle/code"
	"surtitle/cue"
	"surtitle/mark"
	"surtitle/vtt"
)

// What stands here says the chapter's words once more, by all lines and blocks of a file at once, to hold the program against.

// splitWords tells the lines of a file (P105), from number 1 on.
func splitWords(s string) []string {
	s = strings.ReplaceAll(strings.ReplaceAll(s, "\r\n", "\n"), "\r", "\n")
	return append([]string{"no line"}, strings.Split(strings.TrimSuffix(s, "\n"), "\n")...)
}

// longWords tells the line in which the byte behind the first MaxFile ones stands; 0: there is none. late: it is an LF behind a CR.
func longWords(s string) (line int, late bool) {
	if len(s) <= 1<<22 {
		return 0, false
	}
	ahead := s[:1<<22]
	ends := strings.Count(ahead, "\n") + strings.Count(ahead, "\r") - strings.Count(ahead, "\r\n")
	return ends + 1, strings.HasSuffix(ahead, "\r") && s[1<<22] == '\n'
}

// headWords: P1503, 1 and 2.
func headWords(lines []string) api.Fault {
	if lines[1] != "WEBVTT" {
		return api.Fault{Err: api.ErrHead, Line: 1, Col: 1}
	}
	if len(lines) > 2 && lines[2] != "" {
		return api.Fault{Err: api.ErrHead, Line: 2, Col: 1}
	}
	return api.Fault{}
}

// blockWords is a row of lines that are not empty: their numbers.
type blockWords struct{ first, last int }

// blocksWords: P1503, 3.
func blocksWords(lines []string) []blockWords {
	var l []blockWords
	for n := 3; n < len(lines); n++ {
		switch {
		case lines[n] == "":
		case lines[n-1] != "":
			l[len(l)-1].last = n
		default:
			l = append(l, blockWords{n, n})
		}
	}
	return l
}

// timesWords: P1503, 6: the line of times of the cue behind those ahead.
func timesWords(line string, n int, ahead []api.Cue) (api.Cue, api.Fault) {
	var c api.Cue
	at := strings.Index(line, " --> ")
	if at < 0 {
		return c, api.Fault{Err: api.ErrLine, Line: n, Col: 1}
	}
	from := at + 5
	to := from
	for to < len(line) && line[to] != ' ' {
		to++
	}
	var e api.Errno
	if c.Start, e = code.ParseClock(api.FVtt, line[:at]); e != api.OK {
		return c, api.Fault{Err: api.ErrTime, Line: n, Col: 1}
	}
	if c.End, e = code.ParseClock(api.FVtt, line[from:to]); e != api.OK {
		return c, api.Fault{Err: api.ErrTime, Line: n, Col: len([]rune(line[:from])) + 1}
	}
	if line[to:] != "" && line[to:] != " line:0" {
		return c, api.Fault{Err: api.ErrLine, Line: n, Col: len([]rune(line[:to])) + 1}
	}
	c.Side = len(line[to:]) / 7
	all := append(slices.Clone(ahead), c)
	switch {
	case rat(c.Start).Cmp(rat(c.End)) >= 0:
		return c, api.Fault{Err: api.ErrBack, Line: n, Col: 1}
	case !slices.IsSortedFunc(all, compareWords):
		return c, api.Fault{Err: api.ErrOrder, Line: n, Col: 1}
	case len(all) > 4096:
		return c, api.Fault{Err: api.ErrMany, Line: n, Col: 1}
	}
	return c, api.Fault{}
}

func rat(x api.Ratio) *big.Rat { return big.NewRat(x.N, x.D) }

// compareWords: W8's order.
func compareWords(x, y api.Cue) int {
	if n := rat(x.Start).Cmp(rat(y.Start)); n != 0 {
		return n
	}
	return rat(x.End).Cmp(rat(y.End))
}

// noteWords: P1503, 4: whether a block of this first line is passed over.
func noteWords(line string) bool {
	return line == "NOTE" || len(line) > 4 && line[:5] == "NOTE "
}

// cueWords: P1503, 5 to 7: the cue of a block that is no note, or its first fault; whether its text is read.
func cueWords(lines []string, b blockWords, ahead []api.Cue, reads bool) (api.Cue, api.Fault) {
	at := b.first
	if !strings.Contains(lines[at], "-->") {
		at++
	}
	if at > b.last {
		return api.Cue{}, api.Fault{Err: api.ErrEnd, Line: at, Col: 1}
	}
	c, f := timesWords(lines[at], at, ahead)
	if f.Err != api.OK || !reads {
		return c, f
	}
	m, e := mark.Parse(api.DVoice, strings.Join(lines[at+1:b.last+1], "\n"))
	if e != api.OK {
		return c, api.Fault{Err: e, Line: at + 1, Col: 1}
	}
	c.Text, c.Name = m.Text, m.Name
	return c, api.Fault{}
}

// parseWords: P1503 and P11.
func parseWords(s string) (api.Doc, api.Fault) {
	long, late := longWords(s)
	var tooLong api.Fault
	if long > 0 {
		tooLong = api.Fault{Err: api.ErrLong, Line: long, Col: 1}
	}
	// first tells whether something is a fault, and which one comes first then.
	first := func(f api.Fault) (api.Fault, bool) {
		if f.Err != api.OK && long > 0 && f.Line >= long {
			return tooLong, true
		}
		return f, f.Err != api.OK
	}
	lines := splitWords(s)
	lines[1] = strings.TrimPrefix(lines[1], "\xef\xbb\xbf")
	if f, is := first(headWords(lines)); is {
		return doc(), f
	}
	var l []api.Cue
	for _, b := range blocksWords(lines) {
		// The LF behind a CR is a byte of the line behind: that line is no empty one.
		within := long > 0 && (long <= b.last || late && long == b.last+1)
		if !noteWords(lines[b.first]) {
			c, fault := cueWords(lines, b, l, !within)
			if f, is := first(fault); is {
				return doc(l...), f
			}
			if !within {
				l = append(l, c)
			}
		}
		if within {
			return doc(l...), tooLong
		}
	}
	return doc(l...), tooLong
}

// writeWords: P1502 of what was kept.
func writeWords(d api.Doc) string {
	s := "WEBVTT\n"
	for _, c := range d.Cues {
		s += "\n" + clockWords(c.Start) + " --> " + clockWords(c.End) + strings.Repeat(" line:0", c.Side) + "\n"
		if text, _ := mark.Print(api.DVoice, mark.Marked{Text: c.Text, Name: c.Name}); len(text) > 0 {
			s += text + "\n"
		}
	}
	return s
}

func clockWords(t api.Ratio) string {
	ms := new(big.Rat).Mul(rat(t), big.NewRat(1000, 1)).Num().Int64()
	part := func(n int64, digits int) string {
		s := strconv.FormatInt(n, 10)
		return strings.Repeat("0", max(digits-len(s), 0)) + s
	}
	return part(ms/3600000, 2) + ":" + part(ms/60000%60, 2) + ":" + part(ms/1000%60, 2) + "." + part(ms%1000, 3)
}

// maker makes things by chance, the same each time.
type maker struct{ dice *rand.Rand }

func newMaker(seed uint64) maker { return maker{rand.New(rand.NewPCG(seed, 15))} }

func (m maker) half() bool { return m.dice.IntN(2) == 0 }

// one tells whether it comes to that: once in so many.
func (m maker) one(in int) bool { return m.dice.IntN(in) == 0 }

// pick is one of some.
func pick[T any](m maker, l ...T) T { return l[m.dice.IntN(len(l))] }

// parts are some of these, one behind the other.
func (m maker) parts(many int, l ...string) string {
	s := ""
	for range m.dice.IntN(many + 1) {
		s += pick(m, l...)
	}
	return s
}

// text is a right one.
func (m maker) text() api.Text {
	x := api.Text{S: m.parts(9, "a", "bc", " ", "é", "\n", "\n", "\r", "中", "\U0001f600", "\xc3", "\xa9", "\xff", "\x00", "<", ">", "&", "&lt;", "<v A>", "<b>", "NOTE", " --> ", "\ufeff")}
	n := len([]rune(x.S))
	for range m.dice.IntN(4) {
		from := m.dice.IntN(n + 1)
		y := api.Span{From: from, To: from + m.dice.IntN(n-from+1), Kind: 1 + m.dice.IntN(5)}
		if y.Kind == api.KColour {
			y.Value = m.dice.IntN(0x1000000)
		}
		apart := func(z api.Span) bool {
			return y.To <= z.From || z.To <= y.From || y.From <= z.From && z.To <= y.To || z.From <= y.From && y.To <= z.To
		}
		if y.From < y.To && !slices.ContainsFunc(x.Spans, func(z api.Span) bool { return !apart(z) }) {
			x.Spans = append(x.Spans, y)
		}
	}
	return x
}

// time is one of few, so that many fall together.
func (m maker) time() api.Ratio {
	d := pick[int64](m, 1, 2, 1000, 1000, 24000, 1<<20, 1<<20-1)
	n := m.dice.Int64N(5*d + 1)
	if m.one(6) {
		n = m.dice.Int64N(360000*d + 1)
	}
	if m.one(12) {
		n = 360000*d - m.dice.Int64N(3)
	}
	x := big.NewRat(n, d)
	return r(x.Num().Int64(), x.Denom().Int64())
}

// cue is a right one.
func (m maker) cue() api.Cue {
	x := api.Cue{Start: m.time(), End: m.time(), Text: m.text()}
	if m.half() {
		x.Lane, x.Side, x.Name = m.dice.IntN(8), m.dice.IntN(2), pick(m, "", "Ann", "Bob & <Co>", "\xc3", "&gt;", strings.Repeat("é", 32))
	}
	for x.Start == x.End {
		x.End = m.time()
	}
	if rat(x.Start).Cmp(rat(x.End)) > 0 {
		x.Start, x.End = x.End, x.Start
	}
	return x
}

// doc is a right one of up to so many cues.
func (m maker) doc(many int) api.Doc {
	var l []api.Cue
	for range m.dice.IntN(many + 1) {
		l = append(l, m.cue())
	}
	return doc(cue.Sort(l)...)
}

// clock is one of a file, most times a right one.
func (m maker) clock(seconds int) string {
	s := clockWords(r(int64(seconds)*1000+m.dice.Int64N(2), 1000))
	if m.one(150) {
		return pick(m, "", "0:01.000", "00:00:01,000", "00:61.000", "é", "100:00:00.000", "100:00:00.001", s+"x", s[1:])
	}
	if m.half() {
		return strings.TrimPrefix(s, "00:")
	}
	return s
}

// times is a line of them, most times a right one, that begins about that second.
func (m maker) times(second int) string {
	arrow, long := " --> ", 1+m.dice.IntN(3)
	if m.one(80) {
		arrow = pick(m, " -> ", "-->", " -->\t", " -->")
	}
	if m.one(80) {
		long = -m.dice.IntN(2)
	}
	line := m.clock(second) + arrow + m.clock(second+long)
	if m.one(4) {
		line += " line:0"
	}
	if m.one(80) {
		line += pick(m, " ", " x", " line:1", " line:0 ", " --> 00:00.000", "  x", " é\xff")
	}
	return line
}

// note is the lines of a block that is passed over.
func (m maker) note() []string {
	l := []string{pick(m, "NOTE", "NOTE ", "NOTE x", "NOTE x --> y")}
	for range m.dice.IntN(3) {
		l = append(l, pick(m, "x", "00:01.000 --> 00:02.000", " ", "NOTE", "WEBVTT", "<b>"))
	}
	return l
}

// id is a line that may stand ahead of times.
func (m maker) id() string {
	return pick(m, "7", "id", " ", "é\xff", "NOTEs", "NOTE\tx", " NOTE", "-- >", "\ufeffNOTE", "WEBVTT", "<b>", "00:01.000")
}

// block is the lines of one of a file, most times a right one, that begins about that second.
func (m maker) block(second int) []string {
	if m.one(8) {
		return m.note()
	}
	var l []string
	if m.one(3) {
		l = append(l, m.id())
		if m.one(25) {
			return l
		}
	}
	l = append(l, m.times(second))
	for range m.dice.IntN(4) {
		s := m.parts(6, "a", "b c", "<v Ann>", "<v &amp;>", "<b>", "</b>", "<i>", "</i>", "<c.00ff7F>", "</c>", "<", "é", "\xc3", "\xa9", "\x00", "{\\b1}", "&lt;", "&gt;", "-->", " --> ", "NOTE", "|")
		switch {
		case m.one(150):
			s = strings.Repeat("x", 4090+m.dice.IntN(12))
		case m.one(150):
			s = strings.Repeat("<b>x</b>y", 254+m.dice.IntN(5))
		}
		if s != "" {
			l = append(l, s)
		}
	}
	return l
}

// blocks are those of a file.
func (m maker) blocks(many int) [][]string {
	var l [][]string
	second := 0
	for range m.dice.IntN(many + 1) {
		l = append(l, m.block(second))
		second += pick(m, 0, 1, 1, 2, 3)
		if m.one(30) {
			second = 0
		}
	}
	return l
}

// file is one of a head and some blocks, with line ends of one kind or of all.
func (m maker) file(many int) string {
	end := func() string { return "\n" }
	if m.half() {
		end = func() string { return pick(m, "\n", "\r\n", "\r") }
	}
	s := "WEBVTT"
	if m.one(8) {
		s = "\ufeff" + s
	}
	if m.one(80) {
		s = pick(m, "", "WEBVTT x", "webvtt", "x", "\ufeff", "\ufeff\ufeffWEBVTT")
	}
	s += end()
	if !m.one(80) {
		s += end()
	}
	for _, lines := range m.blocks(many) {
		for range m.dice.IntN(3) {
			s += end()
		}
		for _, line := range lines {
			s += line + end()
		}
		if !m.one(20) {
			s += end()
		}
	}
	if m.one(3) {
		s = strings.TrimRight(s, "\r\n")
	}
	return s
}

// holdParse complains if Parse does otherwise than the words; it tells the fault.
func holdParse(t *testing.T, s string) api.Fault {
	t.Helper()
	d, f := vtt.Parse([]byte(s))
	want, fault := parseWords(s)
	if f != fault || !sameDoc(d, want) {
		t.Fatalf("Parse(.. %.300q): %+v, %v; want %+v, %v", s[max(len(s)-300, 0):], d, f, want, fault)
	}
	return f
}

// tried complains if some faults came too seldom.
func tried(t *testing.T, seen map[api.Errno]int, least int, l ...api.Errno) {
	t.Helper()
	for _, e := range l {
		if seen[e] < least {
			t.Errorf("%v only %d times: the files try too little", e, seen[e])
		}
	}
}

// TestParseWords: P1503 of files of blocks, by the words.
func TestParseWords(t *testing.T) {
	m, seen := newMaker(1), map[api.Errno]int{}
	for range 30000 {
		seen[holdParse(t, m.file(pick(m, 2, 6, 20))).Err]++
	}
	tried(t, seen, 100, api.OK, api.ErrHead, api.ErrEnd, api.ErrLine, api.ErrTime, api.ErrBack, api.ErrOrder, api.ErrLong, api.ErrMany)
}

// TestParseAnyBytes: P1503 of files of which bytes are others, are gone, are twice there, and of any bytes, by the words.
func TestParseAnyBytes(t *testing.T) {
	m := newMaker(2)
	const bytes = "\n\r\n\r\n 19:.->x<b/&WNOTE\xef\xbb\xbf\x00"
	for range 40000 {
		b := []byte(m.file(3))
		for range m.dice.IntN(3) {
			at := m.dice.IntN(len(b) + 1)
			switch to := min(len(b), at+m.dice.IntN(4)); m.dice.IntN(3) {
			case 0:
				b = slices.Delete(b, at, to)
			case 1:
				b = slices.Insert(b, at, b[at:to]...)
			default:
				b = slices.Insert(b, at, bytes[m.dice.IntN(len(bytes))])
			}
		}
		if m.one(10) {
			b = []byte(pick(m, "", "WEBVTT\n\n", "\ufeffWEBVTT\r\r"))
			for range m.dice.IntN(20) {
				b = append(b, bytes[m.dice.IntN(len(bytes))])
			}
		}
		holdParse(t, string(b))
	}
}

// TestParseShort: P1503 of all files of few parts, by the words.
func TestParseShort(t *testing.T) {
	l := []string{"\n", "\r", "\r\n", "WEBVTT", "NOTE", "\ufeff", "00:01.000", " --> ", "00:02.000", " line:0", " ", "-->", "<v A>", "x"}
	var all func(s string, more int)
	all = func(s string, more int) {
		holdParse(t, s)
		for _, part := range l {
			if more > 0 {
				all(s+part, more-1)
			}
		}
	}
	all("", 4)
	all("WEBVTT\n\n", 4)
	all("WEBVTT\r\n\r\n00:01.000 --> 00:02.000", 4)
	all("WEBVTT\n\n00:01.000 --> 00:02.000\n<b>x</b>\n\n00:01.000 --> 00:02.000", 3)
	all("WEBVTT\n\n00:01.000 --> 00:02.000\n<b>x</b>\n", 4)
}

// padded is a file of so many bytes: a cue, a long note, and the empty line behind it.
func padded(size int) string {
	const head = "WEBVTT\n\n00:01.000 --> 00:02.000\n\nNOTE "
	return head + strings.Repeat("x", size-len(head)-2) + "\n\n"
}

// TestParseLong: P1503: the line at which a file is too long, wherever that is in it, by the words.
func TestParseLong(t *testing.T) {
	seen := map[api.Errno]int{}
	for _, tail := range []string{
		"2\n00:01.000 --> 00:02.000\na\nb\n\n\n00:03.000 --> 00:04.000\n\n",
		"\r\n2\r\n00:01.000 --> 00:02.000\r\na\r\nb\r\n\r\n\r\n00:03.000 --> 00:04.000\r\n\r\n",
		"00:01.000 --> 00:02.000 line:0\ra\rb\r\r\r\n\n",
		"NOTE x\ny\n\n", "NOTE\r\ny\r\n\r\n", "NOTE\r\r\r", "2\n\n", "2\r\n\r\n", "2\r\r", "2\nx\n\n",
		"00:01.000 --> 0\r\n\r\n",
		"00:01.000 --> 00:02.000 x\r\n\r\n",
		"2\r\n00:01.000 --> 00:01.000\r\n\r\n",
		"00:00.000 --> 00:01.000\n\n",
		"\n\n\r\n\r\n\r\r",
	} {
		for at := range len(tail) + 1 {
			seen[holdParse(t, padded(1<<22-at)+tail).Err]++
			// The bytes behind the one that is too many tell nothing more; without them a line may end, or the file.
			if at < len(tail) {
				seen[holdParse(t, padded(1<<22-at)+tail[:at+1]).Err]++
			}
		}
	}
	tried(t, seen, 2, api.OK, api.ErrEnd, api.ErrLine, api.ErrTime, api.ErrBack, api.ErrOrder, api.ErrLong)
}

// TestParseLongText: P1503: a text with a fault, and the file too long in it, at its end and behind it.
func TestParseLongText(t *testing.T) {
	for _, text := range []string{strings.Repeat("x", 4097), strings.Repeat("<b>x</b>y", 257)} {
		for _, end := range []string{"\n", "\r", "\r\n"} {
			tail := strings.Join([]string{"2", "00:01.000 --> 00:02.000", text, "a", "", "3"}, end)
			for _, behind := range []int{1, 2, 3, 4, 5, 6, 7, 8, 9, 10, 100, len(text), len(text) + 9, len(text) + 40, len(tail)} {
				at := len(tail) - min(behind, len(tail))
				holdParse(t, padded(1<<22-at)+tail)
				holdParse(t, padded(1<<22-at)+tail[:at+1])
			}
		}
	}
}

// TestLongPlaces: P1503: the place of ErrLong, and the cues ahead of it, said one by one.
func TestLongPlaces(t *testing.T) {
	const most = 1 << 22
	block := func(end string) string { return "00:01.000 --> 00:02.000" + end + "a" + end }
	// a head, and lines, each empty, up to the end of the bytes that may be
	empty := func(s string, behind string) string {
		s = "WEBVTT\n\n" + s
		return s + strings.Repeat("\n", most-len(s)-len(behind)) + behind
	}
	// the line of the byte too many, behind lines that have these bytes beside the head's and one end each
	behind := func(s string) int { return most - len("WEBVTT") - len(s) + 1 }
	const other = "00:01.000 --> 00:02.000a"
	for n, x := range []struct {
		s    string
		line int
		cues int
	}{
		{empty("", "") + "\n", behind(""), 0},
		{empty("", "") + "x", behind(""), 0},
		{empty("", "\r") + "\n", behind(""), 0},
		{empty("", "\r") + "\nx", behind(""), 0},
		{empty("", "\r") + "\r", behind(""), 0},
		{empty("", "\r\n") + "\n", behind("\r"), 0},
		{empty("", "1") + "\n", behind("1"), 0},
		{empty("", "1\r") + "\n", behind("1"), 0},
		{empty("", "1\n") + "\n", behind("1"), 0},
		{empty("", "NOTE") + " ", behind("NOTE"), 0},
		{empty("", "NOTE\n") + "\n", behind("NOTE"), 0},
		{empty(block("\n"), "") + "\n", behind(other), 1},
		{empty(block("\n"), "NOTE\n") + "\n", behind(other + "NOTE"), 1},
		// the byte is the end of an empty line: the block ahead is whole
		{empty("", block("\n")) + "\n", behind(other), 1},
		{empty("", block("\n")) + "\r\n", behind(other), 1},
		{empty("", block("\r")) + "\r", behind(other), 1},
		// it goes on with the block, or may do so
		{empty("", block("\n")) + "x", behind(other), 0},
		{empty("", block("\r")) + "\n", behind(other), 0},
		{empty("", block("\r")) + "\n\n", behind(other), 0},
		{empty("", block("\r")) + "\nx", behind(other), 0},
		{empty("", strings.TrimSpace(block("\n"))) + "\n", behind(other), 0},
		{empty("", strings.TrimSpace(block("\n"))) + "a", behind(other), 0},
		// ahead of the faults of the same line, also in the head
		{strings.Repeat("x", most) + "x", 1, 0},
		{strings.Repeat("x", most) + "\n", 1, 0},
		{"\ufeff" + strings.Repeat("x", most), 1, 0},
		{"WEBVTT\n" + strings.Repeat("x", most), 2, 0},
		{"WEBVTT\n\n" + strings.Repeat("x", most), 3, 0},
		{"WEBVTT\n\nNOTE " + strings.Repeat("x", most), 3, 0},
		{"WEBVTT\n\nx\n" + strings.Repeat(" --> ", most), 4, 0},
	} {
		d, f := vtt.Parse([]byte(x.s))
		if f != (api.Fault{Err: api.ErrLong, Line: x.line, Col: 1}) || len(d.Cues) != x.cues {
			t.Errorf("%d: %d, %v; want %d, line %d", n, len(d.Cues), f, x.cues, x.line)
		}
		if _, f := vtt.Parse([]byte(x.s[:most])); f.Err == api.ErrLong {
			t.Errorf("%d: %v", n, f)
		}
	}
	// A fault in a line ahead is the first one.
	for s, line := range map[string]int{
		"WEBVTT \n" + strings.Repeat("x", most):           1,
		strings.Repeat("x", most-1) + "\r\n":              1,
		"WEBVTT\nx\n" + strings.Repeat("\n", most):        2,
		"WEBVTT\n" + strings.Repeat("x", most-8) + "\r\n": 2,
	} {
		if d, f := vtt.Parse([]byte(s)); f != (api.Fault{Err: api.ErrHead, Line: line, Col: 1}) || len(d.Cues) != 0 {
			t.Errorf("%.20q: %d, %v; want line %d", s, len(d.Cues), f, line)
		}
	}
}

// TestWriteWords: P1501, P1502 of right documents, by the words.
func TestWriteWords(t *testing.T) {
	m, lossy := newMaker(3), 0
	can := api.Can{Dialect: api.DVoice, Grid: r(1, 1000), Side: true, Name: true}
	for range 10000 {
		d := m.doc(6)
		kept, lost, err := cue.Keep(d, can)
		got, lost1, err1 := vtt.Keep(d)
		if err != nil || err1 != nil || !sameDoc(got, kept) || !slices.Equal(lost, lost1) {
			t.Fatalf("Keep(%+v): %+v, %v, %v; want %+v, %v, %v", d, got, lost1, err1, kept, lost, err)
		}
		b, lost2, err2 := vtt.Write(d)
		if err2 != nil || string(b) != writeWords(kept) || !slices.Equal(lost, lost2) {
			t.Fatalf("Write(%+v): %q, %v, %v; want %q, %v", d, b, lost2, err2, writeWords(kept), lost)
		}
		if len(lost) > 0 {
			lossy++
		}
	}
	if lossy < 3000 || lossy > 9700 {
		t.Errorf("%d of 10000 lose something: the documents try too little", lossy)
	}
}
