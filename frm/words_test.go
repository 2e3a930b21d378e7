package frm_test

import (
	"math/big"
	"math/rand/v2"
	"regexp"
	"slices"
	"strconv"
	"strings"
	"testing"

	"surtitle/api"
	"surtitle/cue"
	"surtitle/frm"
	"surtitle/mark"
)

// What stands here says the chapter's words once more, by all lines of a file at once, to hold the program against.

// splitWords tells the lines of a file (P105), from number 1 on; P11: without a byte order mark.
func splitWords(s string) []string {
	s = strings.ReplaceAll(strings.ReplaceAll(s, "\r\n", "\n"), "\r", "\n")
	lines := strings.Split(strings.TrimSuffix(s, "\n"), "\n")
	lines[0] = strings.TrimPrefix(lines[0], "\xef\xbb\xbf")
	return append([]string{"no line"}, lines...)
}

// longWords tells the line in which the byte behind the first MaxFile ones stands; one behind all others: there is no such byte.
func longWords(s string) int {
	const most = 1 << 22
	if len(s) <= most {
		return 1 << 40
	}
	ahead := s[:most]
	return strings.Count(ahead, "\n") + strings.Count(ahead, "\r") - strings.Count(ahead, "\r\n") + 1
}

func rat(x api.Ratio) *big.Rat { return big.NewRat(x.N, x.D) }

// rateForm is that of RateText (P508).
var rateForm = regexp.MustCompile(`^(0|[1-9][0-9]{0,8})(?:/(0|[1-9][0-9]{0,8}))?(d?)$`)

// rateWords: P501, P508: the rate that a text says.
func rateWords(s string) (api.Rate, bool) {
	m := rateForm.FindStringSubmatch(s)
	if m == nil || m[2] == "1" {
		return api.Rate{}, false
	}
	num, _ := strconv.Atoi(m[1])
	den := 1
	if m[2] != "" {
		den, _ = strconv.Atoi(m[2])
	}
	x := api.Rate{Num: num, Den: den, Drop: m[3] == "d"}
	return x, isRateWords(x)
}

// isRateWords: P501.
func isRateWords(x api.Rate) bool {
	if x.Num < 1 || x.Num > 240000 || x.Den < 1 || x.Den > 1001 {
		return false
	}
	v := big.NewRat(int64(x.Num), int64(x.Den))
	return v.Num().Int64() == int64(x.Num) && v.Cmp(big.NewRat(1, 1)) >= 0 && v.Cmp(big.NewRat(240, 1)) <= 0 &&
		(!x.Drop || x.Den == 1001 && (x.Num == 30000 || x.Num == 60000))
}

// timeWords: P502: a frame's time, if it is one.
func timeWords(x api.Rate, frame int64) (api.Ratio, bool) {
	v := new(big.Rat).Mul(big.NewRat(int64(x.Den), int64(x.Num)), big.NewRat(frame, 1))
	return r(v.Num().Int64(), v.Denom().Int64()), v.Cmp(big.NewRat(360000, 1)) <= 0
}

// compareWords: W8's order.
func compareWords(x, y api.Cue) int {
	if n := rat(x.Start).Cmp(rat(y.Start)); n != 0 {
		return n
	}
	return rat(x.End).Cmp(rat(y.End))
}

// cueForm is a cue's numbers.
var cueForm = regexp.MustCompile(`^\{([0-9]{1,9})\}\{([0-9]{1,9})\}`)

// cueWords: P1603, 2 to 4: the cue of a line behind those ahead; or the fault, and its sign.
func cueWords(line string, rate api.Rate, ahead []api.Cue) (api.Cue, api.Errno, int) {
	at := cueForm.FindStringSubmatchIndex(line)
	if at == nil {
		return api.Cue{}, api.ErrLine, 1
	}
	first, _ := strconv.ParseInt(line[at[2]:at[3]], 10, 64)
	second, _ := strconv.ParseInt(line[at[4]:at[5]], 10, 64)
	start, right1 := timeWords(rate, first)
	end, right2 := timeWords(rate, second)
	c := api.Cue{Start: start, End: end}
	switch {
	case !right1:
		return c, api.ErrTime, 2
	case !right2:
		return c, api.ErrTime, len([]rune(line[:at[4]])) + 1
	case first >= second:
		return c, api.ErrBack, 1
	case !slices.IsSortedFunc(append(slices.Clone(ahead), c), compareWords):
		return c, api.ErrOrder, 1
	case len(ahead) == 4096:
		return c, api.ErrMany, 1
	}
	m, e := mark.Parse(api.DPipe, line[at[1]:])
	c.Text = m.Text
	return c, e, len([]rune(line[:at[1]])) + 1
}

// parseWords: P1603 and P11.
func parseWords(s string) (api.Doc, api.Rate, api.Fault) {
	lines, long := splitWords(s), longWords(s)
	switch rate, ok := rateWords(strings.TrimPrefix(lines[1], "{1}{1}")); {
	case long == 1:
		return doc(), api.Rate{}, api.Fault{Err: api.ErrLong, Line: 1, Col: 1}
	case !strings.HasPrefix(lines[1], "{1}{1}"):
		return doc(), api.Rate{}, api.Fault{Err: api.ErrHead, Line: 1, Col: 1}
	case !ok:
		return doc(), api.Rate{}, api.Fault{Err: api.ErrRate, Line: 1, Col: 7}
	default:
		l, f := behindWords(lines, long, rate)
		return doc(l...), rate, f
	}
}

// behindWords: what stands behind the first line.
func behindWords(lines []string, long int, rate api.Rate) (l []api.Cue, f api.Fault) {
	for n := 2; n < min(long, len(lines)); n++ {
		if lines[n] == "" {
			continue
		}
		c, e, col := cueWords(lines[n], rate, l)
		if e != api.OK {
			return l, api.Fault{Err: e, Line: n, Col: col}
		}
		l = append(l, c)
	}
	if long < 1<<40 {
		return l, api.Fault{Err: api.ErrLong, Line: long, Col: 1}
	}
	return l, api.Fault{}
}

// writeWords: P1602 of what was kept.
func writeWords(d api.Doc, x api.Rate) string {
	s := "{1}{1}" + strconv.Itoa(x.Num)
	if x.Den != 1 {
		s += "/" + strconv.Itoa(x.Den)
	}
	if x.Drop {
		s += "d"
	}
	s += "\n"
	for _, c := range d.Cues {
		text, _ := mark.Print(api.DPipe, mark.Marked{Text: c.Text})
		s += "{" + frameWords(c.Start, x) + "}{" + frameWords(c.End, x) + "}" + text + "\n"
	}
	return s
}

func frameWords(t api.Ratio, x api.Rate) string {
	return new(big.Rat).Mul(rat(t), big.NewRat(int64(x.Num), int64(x.Den))).RatString()
}

// maker makes things by chance, the same each time.
type maker struct{ dice *rand.Rand }

func newMaker(seed uint64) maker { return maker{rand.New(rand.NewPCG(seed, 16))} }

func (m maker) half() bool { return m.dice.IntN(2) == 0 }

// one tells whether it comes to that: once in so many.
func (m maker) one(in int) bool { return m.dice.IntN(in) == 0 }

// pick is one of some.
func pick[T any](m maker, l ...T) T { return l[m.dice.IntN(len(l))] }

// parts are some of these, one behind the other.
func (m maker) parts(many int, l ...string) string {
	s := ""
	for range m.dice.IntN(many + 1) {
		s += pick(m, l...)
	}
	return s
}

// rate is a right one.
func (m maker) rate() api.Rate {
	for m.half() {
		x := api.Rate{Num: 1 + m.dice.IntN(240000), Den: 1 + m.dice.IntN(1001)}
		if isRateWords(x) {
			return x
		}
	}
	return pick(m, slow, film, pal, tape, drop, twice, fast, fine, api.Rate{Num: 240000, Den: 1001}, api.Rate{Num: 1001, Den: 1000}, api.Rate{Num: 30000, Den: 1001})
}

// text is a right one.
func (m maker) text() api.Text {
	x := api.Text{S: m.parts(9, "a", "bc", " ", "é", "\n", "\n", "\r", "中", "\U0001f600", "\xc3", "\xa9", "\xff", "\x00", "{", "|", "}", "{y:b}", "{c:$", "{1}{2}", "\ufeff")}
	n := len([]rune(x.S))
	for range m.dice.IntN(4) {
		from := m.dice.IntN(n + 1)
		y := api.Span{From: from, To: from + m.dice.IntN(n-from+1), Kind: 1 + m.dice.IntN(5)}
		if m.one(3) {
			y.From, y.To = 0, n
		}
		if y.Kind == api.KColour {
			y.Value = m.dice.IntN(0x1000000)
		}
		apart := func(z api.Span) bool {
			return y.To <= z.From || z.To <= y.From || y.From <= z.From && z.To <= y.To || z.From <= y.From && y.To <= z.To
		}
		if y.From < y.To && !slices.ContainsFunc(x.Spans, func(z api.Span) bool { return !apart(z) }) {
			x.Spans = append(x.Spans, y)
		}
	}
	return x
}

// time is one of few, so that many fall together; some of them are beginnings of frames.
func (m maker) time(rate api.Rate) api.Ratio {
	d := pick(m, 1, 2, 1000, int64(rate.Num), int64(rate.Num), 1<<20, 1<<20-1)
	n := m.dice.Int64N(5*d + 1)
	if d == int64(rate.Num) {
		n = n / int64(rate.Den) * int64(rate.Den)
	}
	if m.one(6) {
		n = m.dice.Int64N(360000*d + 1)
	}
	if m.one(12) {
		n = 360000*d - m.dice.Int64N(3)
	}
	x := big.NewRat(n, d)
	return r(x.Num().Int64(), x.Denom().Int64())
}

// cue is a right one.
func (m maker) cue(rate api.Rate) api.Cue {
	x := api.Cue{Start: m.time(rate), End: m.time(rate), Text: m.text()}
	if m.one(3) {
		x.Lane, x.Side, x.Name = m.dice.IntN(8), m.dice.IntN(2), pick(m, "", "Ann", "\xc3")
	}
	for x.Start == x.End {
		x.End = m.time(rate)
	}
	if rat(x.Start).Cmp(rat(x.End)) > 0 {
		x.Start, x.End = x.End, x.Start
	}
	return x
}

// doc is a right one of up to so many cues.
func (m maker) doc(many int, rate api.Rate) api.Doc {
	var l []api.Cue
	for range m.dice.IntN(many + 1) {
		l = append(l, m.cue(rate))
	}
	return doc(cue.Sort(l)...)
}

// head is a file's first line, most times a right one.
func (m maker) head() string {
	if m.one(60) {
		return pick(m, "", "{1}{1}", "{1}{1", "{0}{1}25", "{1}{1}25 ", "{1}{1}50/2", "{1}{1}x", "\ufeff{1}{1}25", "{01}{1}25", "{1}{1}241", "{25}{50}a")
	}
	return strings.TrimSuffix(writeWords(doc(), m.rate()), "\n")
}

// number is one in braces, most times a right one.
func (m maker) number(n int) string {
	s := strconv.Itoa(max(n, 0))
	if m.one(5) {
		s = strings.Repeat("0", m.dice.IntN(10-len(s))) + s
	}
	if m.one(60) {
		s = pick(m, "", "x", "-1", "999999999", "0000000001", " 1", "1 ", "86400000", "86400001", "360000", "360001", "é", "\xff")
	}
	if m.one(150) {
		return pick(m, s, "{"+s, s+"}", "{"+s+"} ", "("+s+")")
	}
	return "{" + s + "}"
}

// cueLine is one of a cue, most times a right one, that begins about that frame.
func (m maker) cueLine(frame int) string {
	long := 1 + m.dice.IntN(30)
	if m.one(60) {
		long = -m.dice.IntN(2)
	}
	s := m.number(frame) + m.number(frame+long)
	switch {
	case m.one(150):
		return s + strings.Repeat("x", 4090+m.dice.IntN(12))
	case m.one(150):
		return s + strings.Repeat("{y:b}x|y|", 254+m.dice.IntN(5))
	}
	return s + m.parts(8, "a", "b c", "|", "|", "{y:b}", "{y:i,s}", "{c:$00ff7F}", "{y:}", "{1}", "{", "}", "é", "\xc3", "\xa9", "\x00", "<b>", "\\N")
}

// lines are those behind a file's first one.
func (m maker) lines(many int) []string {
	var l []string
	frame := 0
	for range m.dice.IntN(many + 1) {
		if m.one(60) {
			l = append(l, pick(m, " ", "x", "{1}", "{y:b}", "\ufeff", "\xff", "{1}{2"))
			continue
		}
		l = append(l, m.cueLine(frame))
		frame += pick(m, 0, 1, 1, 25, 60)
		if m.one(30) {
			frame = 0
		}
	}
	return l
}

// file is one with line ends of one kind or of all, and with empty lines here and there.
func (m maker) file(many int) string {
	end := func() string { return "\n" }
	if m.half() {
		end = func() string { return pick(m, "\n", "\r\n", "\r") }
	}
	s := m.head()
	if m.one(8) {
		s = "\ufeff" + s
	}
	s += end()
	for _, line := range m.lines(many) {
		for range max(0, m.dice.IntN(6)-3) {
			s += end()
		}
		s += line + end()
	}
	if m.one(3) {
		s = strings.TrimRight(s, "\r\n")
	}
	return s
}

// holdParse complains if Parse does otherwise than the words; it tells the fault.
func holdParse(t *testing.T, s string) api.Fault {
	t.Helper()
	d, rate, f := frm.Parse([]byte(s))
	want, wantRate, fault := parseWords(s)
	if f != fault || rate != wantRate || !sameDoc(d, want) {
		t.Fatalf("Parse(.. %.300q): %+v, %v, %v; want %+v, %v, %v", s[max(len(s)-300, 0):], d, rate, f, want, wantRate, fault)
	}
	return f
}

// tried complains if some faults came too seldom.
func tried(t *testing.T, seen map[api.Errno]int, least int, l ...api.Errno) {
	t.Helper()
	for _, e := range l {
		if seen[e] < least {
			t.Errorf("%v only %d times: the files try too little", e, seen[e])
		}
	}
}

// TestParseWords: P1603 of files of lines, by the words.
func TestParseWords(t *testing.T) {
	m, seen := newMaker(1), map[api.Errno]int{}
	for range 30000 {
		seen[holdParse(t, m.file(pick(m, 2, 6, 20))).Err]++
	}
	tried(t, seen, 100, api.OK, api.ErrHead, api.ErrRate, api.ErrLine, api.ErrTime, api.ErrBack, api.ErrOrder, api.ErrLong, api.ErrMany)
}

// TestParseAnyBytes: P1603 of files of which bytes are others, are gone, are twice there, and of any bytes, by the words.
func TestParseAnyBytes(t *testing.T) {
	m := newMaker(2)
	const bytes = "\n\r\n\r\n {{}}{}01259/d|y:b,x\xef\xbb\xbf\x00"
	for range 40000 {
		b := []byte(m.file(3))
		for range m.dice.IntN(3) {
			at := m.dice.IntN(len(b) + 1)
			switch to := min(len(b), at+m.dice.IntN(4)); m.dice.IntN(3) {
			case 0:
				b = slices.Delete(b, at, to)
			case 1:
				b = slices.Insert(b, at, b[at:to]...)
			default:
				b = slices.Insert(b, at, bytes[m.dice.IntN(len(bytes))])
			}
		}
		if m.one(10) {
			b = []byte(pick(m, "", "{1}{1}", "{1}{1}25\n", "\ufeff{1}{1}24\r{"))
			for range m.dice.IntN(20) {
				b = append(b, bytes[m.dice.IntN(len(bytes))])
			}
		}
		holdParse(t, string(b))
	}
}

// TestParseShort: P1603 of all files of few parts, by the words.
func TestParseShort(t *testing.T) {
	l := []string{"\n", "\r", "\r\n", "{1}", "{2}", "{", "}", "0", "25", "360001", "\ufeff", "|", "{y:b}", " "}
	var all func(s string, more int)
	all = func(s string, more int) {
		holdParse(t, s)
		for _, part := range l {
			if more > 0 {
				all(s+part, more-1)
			}
		}
	}
	all("", 4)
	all("{1}{1}", 4)
	all("{1}{1}1\n", 4)
	all("{1}{1}1\r\n{1}", 4)
	all("\ufeff{1}{1}1\n{1}{2}x", 4)
	all("{1}{1}1\r{1}{2}x\r{1}{", 4)
}

// padded is a file of so many bytes: a head, and a cue whose text is one long form that stands for no sign.
func padded(size int) string {
	head := "{1}{1}25\n{25}{50}{y:"
	if (size-len(head))%2 == 0 {
		head = "{1}{1}25\n{025}{50}{y:"
	}
	return head + strings.Repeat("b,", (size-len(head)-3)/2) + "b}\n"
}

// TestParseLong: P1603: the line at which a file is too long, wherever that is in it, by the words.
func TestParseLong(t *testing.T) {
	seen := map[api.Errno]int{}
	for _, size := range []int{1 << 22, 1<<22 - 1} {
		if n := len(padded(size)); n != size || holdParse(t, padded(size)) != (api.Fault{}) {
			t.Fatal(n, size)
		}
	}
	for _, tail := range []string{
		"{25}{50}b\n{75}{100}c\n\n",
		"{25}{50}b\r\n\r\n{75}{100}c\r\n\r\n",
		"{25}{50}b\r\r{75}{100}c\r\r\n\n",
		"x\n\n", "x\r\n\r\n", "x\r\r",
		"{25}{9999999}\r\n\r\n",
		"{50}{25}\r\n",
		"{0}{25}\n\n",
		"\n\n\r\n\r\n\r\r",
	} {
		for at := range len(tail) + 1 {
			seen[holdParse(t, padded(1<<22-at)+tail).Err]++
			// The bytes behind the one that is too many tell nothing more; without them a line may end, or the file.
			if at < len(tail) {
				seen[holdParse(t, padded(1<<22-at)+tail[:at+1]).Err]++
			}
		}
	}
	tried(t, seen, 2, api.OK, api.ErrLine, api.ErrTime, api.ErrBack, api.ErrOrder, api.ErrLong)
}

// TestParseLongText: P1603: a text with a fault, and the file too long in it, at its end and behind it.
func TestParseLongText(t *testing.T) {
	seen := map[api.Errno]int{}
	for _, text := range []string{strings.Repeat("x", 4097), strings.Repeat("{y:b}x|y|", 257)} {
		for _, end := range []string{"\n", "\r", "\r\n"} {
			tail := strings.Join([]string{"{25}{50}", "{25}{50}" + text, "", "{25}{50}"}, end)
			for _, behind := range []int{0, 1, 7, 8, 9, 10, 11, 12, 13, 100, len(text), len(text) + 12, len(text) + 20, len(text) + 25, len(tail)} {
				at := len(tail) - min(behind, len(tail))
				seen[holdParse(t, padded(1<<22-at)+tail).Err]++
				seen[holdParse(t, padded(1<<22-at)+tail[:min(at+1, len(tail))]).Err]++
			}
		}
	}
	tried(t, seen, 10, api.ErrLong, api.ErrMany)
}

// TestLongPlaces: P1603: the place of ErrLong, the rate and the cues ahead of it, said one by one.
func TestLongPlaces(t *testing.T) {
	const most = 1 << 22
	// a head, and lines, each empty, up to the end of the bytes that may be
	empty := func(s string, behind string) string {
		s = "{1}{1}25\n" + s
		return s + strings.Repeat("\n", most-len(s)-len(behind)) + behind
	}
	// the line of the byte too many, behind lines that have these bytes beside the head's and one end each
	behind := func(s string) int { return most - len("{1}{1}25") - len(s) + 1 }
	const a = "{25}{50}a"
	for n, x := range []struct {
		s    string
		line int
		cues int
	}{
		{empty("", "") + "\n", behind(""), 0},
		{empty("", "") + "x", behind(""), 0},
		{empty("", "\r") + "\n", behind(""), 0},
		{empty("", "\r") + "\nx", behind(""), 0},
		{empty("", "\r") + "\r", behind(""), 0},
		{empty("", "\r\n") + "\n", behind("\r"), 0},
		{empty("", "x") + "\n", behind("x"), 0},
		{empty("", "x") + "\r\n", behind("x"), 0},
		{empty("", "x") + "x", behind("x"), 0},
		{empty(a+"\n", "") + "\n", behind(a), 1},
		{empty(a+"\n", "") + a, behind(a), 1},
		// the line ahead of the byte is whole
		{empty("", a+"\n") + "\n", behind(a), 1},
		{empty("", a+"\n") + "x", behind(a), 1},
		{empty("", a+"\r") + "\n", behind(a), 1},
		{empty("", a+"\r") + "\n" + a, behind(a), 1},
		{empty("", a+"\r") + "\r", behind(a), 1},
		{empty("", a+"\r") + "x", behind(a), 1},
		{empty("", a+"\r\n") + "\n", behind(a + "\r"), 1},
		// it stands in the line, its end among it
		{empty("", a) + "\n", behind(a), 0},
		{empty("", a) + "\r", behind(a), 0},
		{empty("", a) + "\r\n", behind(a), 0},
		{empty("", a) + "x", behind(a), 0},
		{empty("", "{25}{50") + "}a", behind("{25}{50"), 0},
		// ahead of the faults of the same line
		{"{1}{1}25\n" + strings.Repeat("x", most), 2, 0},
		{"{1}{1}25\n" + a + strings.Repeat("x", most), 2, 0},
		{"{1}{1}25\r{1}{0}" + strings.Repeat("x", most), 2, 0},
		{"{1}{1}25\n" + a + "\n{0}{1}" + strings.Repeat("x", most), 3, 1},
		{"{1}{1}25\n" + a + "\n{0}{999999999}" + strings.Repeat("x", most), 3, 1},
	} {
		d, rate, f := frm.Parse([]byte(x.s))
		if f != (api.Fault{Err: api.ErrLong, Line: x.line, Col: 1}) || rate != pal || len(d.Cues) != x.cues {
			t.Errorf("%d: %d, %v, %v; want %d, line %d", n, len(d.Cues), rate, f, x.cues, x.line)
		}
	}
	for n, s := range []string{strings.Repeat("x", most+1), "{1}{1}25" + strings.Repeat("x", most), "{1}{1}" + strings.Repeat("0", most-6) + "\n", "\ufeff" + strings.Repeat("x", most)} {
		// In the first line: no rate.
		if d, rate, f := frm.Parse([]byte(s)); f != (api.Fault{Err: api.ErrLong, Line: 1, Col: 1}) || rate != (api.Rate{}) || len(d.Cues) != 0 {
			t.Errorf("%d: %d, %v, %v", n, len(d.Cues), rate, f)
		}
		if _, _, f := frm.Parse([]byte(s[:most])); f.Err == api.ErrLong {
			t.Errorf("%d: %v", n, f)
		}
	}
	// A fault in a line ahead is the first one.
	for s, want := range map[string]api.Fault{
		"{1}{1}\n" + strings.Repeat("x", most):                      {Err: api.ErrRate, Line: 1, Col: 7},
		"{1}{1}" + strings.Repeat("0", most-7) + "\r\n":             {Err: api.ErrRate, Line: 1, Col: 7},
		strings.Repeat("x", most-1) + "\r\n":                        {Err: api.ErrHead, Line: 1, Col: 1},
		"{1}{1}25\nx\n" + strings.Repeat("\n", most):                {Err: api.ErrLine, Line: 2, Col: 1},
		"{1}{1}25\n" + a + strings.Repeat("x", most-19) + "\r\n":    {Err: api.ErrLong, Line: 2, Col: 9},
		"{1}{1}25\n" + a + "\n{0}{1}\n" + strings.Repeat("x", most): {Err: api.ErrOrder, Line: 3, Col: 1},
	} {
		if _, _, f := frm.Parse([]byte(s)); f != want {
			t.Errorf("%.20q: %v; want %v", s, f, want)
		}
	}
}

// TestWriteWords: P1601, P1602 of right documents, by the words.
func TestWriteWords(t *testing.T) {
	m, lossy := newMaker(3), 0
	for range 10000 {
		rate := m.rate()
		d := m.doc(6, rate)
		can := api.Can{Dialect: api.DPipe, Grid: r(int64(rate.Den), int64(rate.Num)), Blank: true}
		kept, lost, err := cue.Keep(d, can)
		got, lost1, err1 := frm.Keep(d, rate)
		if err != nil || err1 != nil || !sameDoc(got, kept) || !slices.Equal(lost, lost1) {
			t.Fatalf("Keep(%+v, %v): %+v, %v, %v; want %+v, %v, %v", d, rate, got, lost1, err1, kept, lost, err)
		}
		b, lost2, err2 := frm.Write(d, rate)
		if err2 != nil || string(b) != writeWords(kept, rate) || !slices.Equal(lost, lost2) {
			t.Fatalf("Write(%+v, %v): %q, %v, %v; want %q, %v", d, rate, b, lost2, err2, writeWords(kept, rate), lost)
		}
		if len(lost) > 0 {
			lossy++
		}
	}
	if lossy < 3000 || lossy > 9700 {
		t.Errorf("%d of 10000 lose something: the documents try too little", lossy)
	}
}
