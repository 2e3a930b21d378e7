package ass_test

import (
	"math/big"
	"math/rand/v2"
	"regexp"
	"slices"
	"strconv"
	"strings"
	"testing"

	"surtitle/api"
	"surtitle/ass"
	"surtitle/cue"
	"surtitle/mark"
)

// What stands here says the chapter's words once more, by all lines of a file at once, to hold the program against.

// splitWords tells the lines of a file (P105); P11: without a byte order mark.
func splitWords(s string) []string {
	if s == "" {
		return nil
	}
	s = strings.ReplaceAll(strings.ReplaceAll(s, "\r\n", "\n"), "\r", "\n")
	lines := strings.Split(strings.TrimSuffix(s, "\n"), "\n")
	lines[0] = strings.TrimPrefix(lines[0], "\xef\xbb\xbf")
	return lines
}

// longWords tells the line in which the byte behind the first MaxFile ones stands; one behind all others: there is no such byte.
func longWords(s string) int {
	const most = 1 << 22
	if len(s) <= most {
		return 1 << 40
	}
	ahead := s[:most]
	return strings.Count(ahead, "\n") + strings.Count(ahead, "\r") - strings.Count(ahead, "\r\n") + 1
}

func rat(x api.Ratio) *big.Rat { return big.NewRat(x.N, x.D) }

// clockForm is that of FAss (P506, P507).
var clockForm = regexp.MustCompile(`^([0-9]|[1-9][0-9]{1,2}):([0-5][0-9]):([0-5][0-9])\.([0-9][0-9])$`)

// timeWords: P507: the time that a clock says, if it is one.
func timeWords(s string) (api.Ratio, bool) {
	m := clockForm.FindStringSubmatch(s)
	if m == nil {
		return api.Ratio{}, false
	}
	n := int64(0)
	for i, by := range []int64{360000, 6000, 100, 1} {
		x, _ := strconv.ParseInt(m[i+1], 10, 64)
		n += x * by
	}
	return cents(n), n <= 36000000
}

// clockWords: P506.
func clockWords(t api.Ratio) string {
	n := new(big.Rat).Mul(rat(t), big.NewRat(100, 1)).Num().Int64()
	two := func(n int64) string { return string([]byte{byte('0' + n/10%10), byte('0' + n%10)}) }
	return strconv.FormatInt(n/360000, 10) + ":" + two(n/6000%60) + ":" + two(n/100%60) + "." + two(n%100)
}

// compareWords: W8's order.
func compareWords(x, y api.Cue) int {
	if n := rat(x.Start).Cmp(rat(y.Start)); n != 0 {
		return n
	}
	return rat(x.End).Cmp(rat(y.End))
}

// passedWords: P1703, 3: lines of the section that say nothing.
var passedWords = regexp.MustCompile(`^(;|Comment:|$)`)

// titleForm is a field's title, with the blanks about it.
var titleForm = regexp.MustCompile(`(?s)^ *(.*?) *$`)

// fieldsWords: P1703, 3: the fields of a line that tells them rightly.
func fieldsWords(line string) ([]string, bool) {
	var l []string
	for _, s := range strings.Split(line[len("Format: "):], ",") {
		l = append(l, titleForm.FindStringSubmatch(s)[1])
	}
	sorted := slices.Sorted(slices.Values(l))
	right := l[len(l)-1] == "Text" && slices.Contains(l, "Start") && slices.Contains(l, "End") && len(slices.Compact(sorted)) == len(l)
	return l, right
}

// partWords is one of a cue's line, and the sign at which it begins.
type partWords struct {
	s   string
	col int
}

// partsWords: P1703, 4: the part of each field, by its title; none: there are fewer.
func partsWords(line string, titles []string) map[string]partWords {
	l := map[string]partWords{}
	from := len("Dialogue: ")
	for n, title := range titles {
		to := len(line)
		if n < len(titles)-1 {
			comma := strings.IndexByte(line[from:], ',')
			if comma < 0 {
				return nil
			}
			to = from + comma
		}
		l[title] = partWords{line[from:to], len([]rune(line[:from])) + 1}
		from = to + 1
	}
	return l
}

// nameWords: W7.
func nameWords(s string) bool {
	return len(s) <= 64 && !strings.ContainsFunc(s, func(r rune) bool { return r < 0x20 })
}

// cueWords: P1703, 4: the cue of a line behind those ahead; or the fault, and its sign.
func cueWords(line string, titles []string, ahead []api.Cue) (api.Cue, api.Errno, int) {
	parts := partsWords(line, titles)
	if len(titles) == 0 || parts == nil {
		return api.Cue{}, api.ErrLine, 1
	}
	start, right1 := timeWords(parts["Start"].s)
	end, right2 := timeWords(parts["End"].s)
	c := api.Cue{Start: start, End: end}
	switch {
	case !right1:
		return c, api.ErrTime, parts["Start"].col
	case !right2:
		return c, api.ErrTime, parts["End"].col
	case rat(start).Cmp(rat(end)) >= 0:
		return c, api.ErrBack, 1
	case !slices.IsSortedFunc(append(slices.Clone(ahead), c), compareWords):
		return c, api.ErrOrder, 1
	case len(ahead) == 4096:
		return c, api.ErrMany, 1
	}
	if x, is := parts["Layer"]; is {
		if c.Lane = strings.Index("01234567", x.s); c.Lane < 0 || len(x.s) != 1 {
			return c, api.ErrLane, x.col
		}
	}
	if x, is := parts["Name"]; is {
		if c.Name = x.s; !nameWords(x.s) {
			return c, api.ErrName, x.col
		}
	}
	x := parts["Text"]
	m, e := mark.Parse(api.DBrace, x.s)
	c.Text, c.Side = m.Text, m.Side
	return c, e, x.col
}

// sectionsWords: P1703, 2: of each line the one that began its section, itself for one that does; none: it stands ahead of all.
func sectionsWords(lines []string) []string {
	l, now := make([]string, len(lines)), ""
	for n, line := range lines {
		if strings.HasPrefix(line, "[") {
			now = line
		}
		l[n] = now
	}
	return l
}

// headWords: P1703, 1: the line that should be the head, and whether it is.
func headWords(lines []string) (int, bool) {
	for n, line := range lines {
		if line != "" {
			return n + 1, line == "[Script Info]"
		}
	}
	return len(lines) + 1, false
}

// parseWords: P1703 and P11.
func parseWords(s string) (api.Doc, api.Fault) {
	lines, long := splitWords(s), longWords(s)
	sections := sectionsWords(lines)
	var l []api.Cue
	tell := func(e api.Errno, line, col int) (api.Doc, api.Fault) {
		if line >= long {
			return doc(l...), api.Fault{Err: api.ErrLong, Line: long, Col: 1}
		}
		return doc(l...), api.Fault{Err: e, Line: line, Col: col}
	}
	if n, is := headWords(lines); !is {
		return tell(api.ErrHead, n, 1)
	}
	var titles []string
	for i, line := range lines {
		n := i + 1
		if n >= long {
			break
		}
		if sections[i] != "[Events]" || strings.HasPrefix(line, "[") || passedWords.MatchString(line) {
			continue
		}
		switch {
		case strings.HasPrefix(line, "Format: "):
			got, right := fieldsWords(line)
			if !right || titles != nil {
				return tell(api.ErrLine, n, 1)
			}
			titles = got
		case strings.HasPrefix(line, "Dialogue: "):
			c, e, col := cueWords(line, titles, l)
			if e != api.OK {
				return tell(e, n, col)
			}
			l = append(l, c)
		default:
			return tell(api.ErrLine, n, 1)
		}
	}
	if long < 1<<40 || titles == nil {
		return tell(api.ErrEnd, len(lines)+1, 1)
	}
	return doc(l...), api.Fault{}
}

// writeWords: P1702 of what was kept.
func writeWords(d api.Doc) string {
	s := "[Script Info]\nScriptType: v4.00+\n\n[Events]\nFormat: Layer, Start, End, Style, Name, MarginL, MarginR, MarginV, Effect, Text\n"
	for _, c := range d.Cues {
		text, _ := mark.Print(api.DBrace, mark.Marked{Text: c.Text, Side: c.Side})
		s += "Dialogue: " + strconv.Itoa(c.Lane) + "," + clockWords(c.Start) + "," + clockWords(c.End) + ",Default," + c.Name + ",0,0,0,," + text + "\n"
	}
	return s
}

// maker makes things by chance, the same each time.
type maker struct{ dice *rand.Rand }

func newMaker(seed uint64) maker { return maker{rand.New(rand.NewPCG(seed, 17))} }

func (m maker) half() bool { return m.dice.IntN(2) == 0 }

// one tells whether it comes to that: once in so many.
func (m maker) one(in int) bool { return m.dice.IntN(in) == 0 }

// pick is one of some.
func pick[T any](m maker, l ...T) T { return l[m.dice.IntN(len(l))] }

// parts are some of these, one behind the other.
func (m maker) parts(many int, l ...string) string {
	s := ""
	for range m.dice.IntN(many + 1) {
		s += pick(m, l...)
	}
	return s
}

// text is a right one.
func (m maker) text() api.Text {
	x := api.Text{S: m.parts(9, "a", "bc", " ", ",", "é", "\n", "\n", "\r", "中", "\U0001f600", "\xc3", "\xa9", "\xff", "\x00", "{", "\\", "}", "\\N", "{\\b1}", "{\\an8}", "[Events]", "\ufeff")}
	n := len([]rune(x.S))
	for range m.dice.IntN(4) {
		from := m.dice.IntN(n + 1)
		y := api.Span{From: from, To: from + m.dice.IntN(n-from+1), Kind: 1 + m.dice.IntN(5)}
		if y.Kind == api.KColour {
			y.Value = m.dice.IntN(0x1000000)
		}
		apart := func(z api.Span) bool {
			return y.To <= z.From || z.To <= y.From || y.From <= z.From && z.To <= y.To || z.From <= y.From && y.To <= z.To
		}
		if y.From < y.To && !slices.ContainsFunc(x.Spans, func(z api.Span) bool { return !apart(z) }) {
			x.Spans = append(x.Spans, y)
		}
	}
	return x
}

// time is one of few, so that many fall together.
func (m maker) time() api.Ratio {
	d := pick[int64](m, 1, 2, 100, 100, 100, 1000, 24000, 1<<20, 1<<20-1)
	n := m.dice.Int64N(5*d + 1)
	if m.one(6) {
		n = m.dice.Int64N(360000*d + 1)
	}
	if m.one(12) {
		n = 360000*d - m.dice.Int64N(3)
	}
	x := big.NewRat(n, d)
	return r(x.Num().Int64(), x.Denom().Int64())
}

// cue is a right one.
func (m maker) cue() api.Cue {
	x := api.Cue{Start: m.time(), End: m.time(), Text: m.text()}
	if m.half() {
		x.Lane, x.Side, x.Name = m.dice.IntN(8), m.dice.IntN(2), pick(m, "", "Ann", " Bob ", "A,B", "\xc3", "{\\b1}", "\ufeff", strings.Repeat("é", 32))
	}
	for x.Start == x.End {
		x.End = m.time()
	}
	if rat(x.Start).Cmp(rat(x.End)) > 0 {
		x.Start, x.End = x.End, x.Start
	}
	return x
}

// doc is a right one of up to so many cues.
func (m maker) doc(many int) api.Doc {
	var l []api.Cue
	for range m.dice.IntN(many + 1) {
		l = append(l, m.cue())
	}
	return doc(cue.Sort(l)...)
}

// titles are those of fields, most times right ones.
func (m maker) titles() []string {
	l := strings.Split(pick(m, "Layer/Start/End/Style/Name/MarginL/MarginR/MarginV/Effect", "Start/End", "Layer/Start/End/Name", "Start/End/Name/é\xff", "x//Start/End/Layer/start"), "/")
	if m.half() {
		m.dice.Shuffle(len(l), func(i, k int) { l[i], l[k] = l[k], l[i] })
	}
	l = append(l, "Text")
	if i := m.dice.IntN(len(l)); m.one(60) {
		switch m.dice.IntN(4) {
		case 0:
			l = slices.Delete(l, i, i+1)
		case 1:
			l = slices.Insert(l, i, pick(m, l...))
		case 2:
			l[i] = pick(m, "", "text", "x", "\tStart", "Text.")
		default:
			l = append(l, pick(m, "", "Name", "y"))
		}
	}
	return l
}

// format is the line that tells fields, most times rightly.
func (m maker) format(titles []string) string {
	if m.one(100) {
		return pick(m, "Format:", "Format:x", "format: ", "Formats: ") + strings.Join(titles, ",")
	}
	return "Format: " + strings.Join(titles, pick(m, ",", ", ", " ,", "  ,  "))
}

// clock is one of a file, most times a right one.
func (m maker) clock(seconds int) string {
	s := clockWords(r(int64(seconds)*100+m.dice.Int64N(2), 100))
	if m.one(250) {
		return pick(m, "", "00:00:01.00", "0:00:01,00", "0:00:61.00", "é", "100:00:00.00", "100:00:00.01", s+"0", s[1:], " "+s, s+" ")
	}
	return s
}

// said is the text of a cue's line, most times a right one.
func (m maker) said() string {
	switch {
	case m.one(150):
		return strings.Repeat("x", 4090+m.dice.IntN(12))
	case m.one(150):
		return strings.Repeat("{\\i1}x{\\i0}y", 254+m.dice.IntN(5))
	}
	return m.parts(8, "a", "b c", ",", ",", "\\N", "\\N", "{\\b1}", "{\\b0}", "{\\an8}", "{\\i1\\s1}", "{\\c&H00ff7F&}", "{\\c}", "{x}", "{", "}", "\\", "é", "\xc3", "\xa9", "\x00", "<b>", "|")
}

// cueParts are those of a cue's line, most times right ones, that begins about that second.
func (m maker) cueParts(titles []string, second int) []string {
	long := 1 + m.dice.IntN(3)
	if m.one(80) {
		long = -m.dice.IntN(2)
	}
	var l []string
	for _, title := range titles {
		s := pick(m, "", "0", "Default", "é\xff", "\x00")
		switch title {
		case "Start":
			s = m.clock(second)
		case "End":
			s = m.clock(max(second+long, 0))
		case "Layer":
			s = pick(m, "0", "1", "5", "7")
			if m.one(80) {
				s = pick(m, "", "8", "9", "00", "-1", " 0", "é", "\xff", "/", ":")
			}
		case "Name":
			s = m.parts(2, "Ann", "", " ", "é", "\xc3", "\xa9", "[")
			if m.one(80) {
				s = pick(m, "\x1f", "a\tb", "\x00", strings.Repeat("é", 33), strings.Repeat("n", 65), strings.Repeat("n", 64))
			}
		case "Text":
			s = m.said()
		}
		l = append(l, s)
	}
	if m.one(100) {
		return l[:m.dice.IntN(len(l))]
	}
	return l
}

// passed are lines that say nothing in a section that counts.
func (m maker) passed() []string {
	l := []string{pick(m, "", "", ";", "; x", ";é\xff", "Comment:", "Comment: 0,0:00:00.00,x", "Comment:x")}
	if m.one(3) {
		l = slices.Concat([]string{pick(m, "[x]", "[", "[Events] ", "[Script Info]", "[V4+ Styles]")}, m.others(), []string{"[Events]"})
	}
	return l
}

// others are lines that say nothing in a section that does not count.
func (m maker) others() []string {
	var l []string
	for range m.dice.IntN(4) {
		l = append(l, pick(m, "", "x", ";", "Format: Name, Fontname", "Format: Start,End,Text", "Dialogue: x", "ScriptType: v4.00+", " [Events]", "é\xff\x00"))
	}
	return l
}

// head are the lines ahead of the fields, most times right ones.
func (m maker) head() []string {
	l := slices.Repeat([]string{""}, max(0, m.dice.IntN(6)-3))
	if m.one(50) {
		l = append(l, pick(m, "x", " ", ";", "[Events]", "[Script Info] ", "Format: Start,End,Text", "\ufeff"))
	}
	l = slices.Concat(l, []string{"[Script Info]"}, m.others())
	if m.one(4) {
		l = slices.Concat(l, []string{"[V4+ Styles]"}, m.others())
	}
	if !m.one(60) {
		l = append(l, "[Events]")
	}
	for m.one(4) {
		l = append(l, m.passed()...)
	}
	return l
}

// lines are those of a file.
func (m maker) lines(many int) []string {
	l, titles, second := m.head(), m.titles(), 0
	if !m.one(50) {
		l = append(l, m.format(titles))
	}
	for range m.dice.IntN(many + 1) {
		for m.one(6) {
			l = append(l, m.passed()...)
		}
		if m.one(100) {
			l = append(l, pick(m, " ", "x", "Dialogue:", "\ufeff", "\xff", "Format: Start,End,Text", "comment: x"))
		}
		l = append(l, "Dialogue: "+strings.Join(m.cueParts(titles, second), ","))
		second += pick(m, 0, 1, 1, 5, 60)
		if m.one(40) {
			second = 0
		}
	}
	return l
}

// file is one with line ends of one kind or of all.
func (m maker) file(many int) string {
	end := func() string { return "\n" }
	if m.half() {
		end = func() string { return pick(m, "\n", "\r\n", "\r") }
	}
	s := ""
	if m.one(8) {
		s = "\ufeff"
	}
	for _, line := range m.lines(many) {
		s += line + end()
	}
	if m.one(3) {
		s = strings.TrimRight(s, "\r\n")
	}
	return s
}

// holdParse complains if Parse does otherwise than the words; it tells the fault.
func holdParse(t *testing.T, s string) api.Fault {
	t.Helper()
	d, f := ass.Parse([]byte(s))
	want, fault := parseWords(s)
	if f != fault || !sameDoc(d, want) {
		t.Fatalf("Parse(.. %.600q): %+v, %v; want %+v, %v", s[max(len(s)-600, 0):], d, f, want, fault)
	}
	return f
}

// tried complains if some faults came too seldom.
func tried(t *testing.T, seen map[api.Errno]int, least int, l ...api.Errno) {
	t.Helper()
	for _, e := range l {
		if seen[e] < least {
			t.Errorf("%v only %d times: the files try too little", e, seen[e])
		}
	}
}

// TestParseWords: P1703 of files of lines, by the words.
func TestParseWords(t *testing.T) {
	m, seen := newMaker(1), map[api.Errno]int{}
	for range 30000 {
		seen[holdParse(t, m.file(pick(m, 2, 6, 20))).Err]++
	}
	tried(t, seen, 100, api.OK, api.ErrHead, api.ErrEnd, api.ErrLine, api.ErrTime, api.ErrBack, api.ErrOrder, api.ErrLane, api.ErrName, api.ErrLong, api.ErrMany)
}

// TestParseAnyBytes: P1703 of files of which bytes are others, are gone, are twice there, and of any bytes, by the words.
func TestParseAnyBytes(t *testing.T) {
	m := newMaker(2)
	const bytes = "\n\r\n\r\n ,,,;[]:.0128\\{}Nb\xef\xbb\xbf\x00"
	for range 40000 {
		b := []byte(m.file(3))
		for range m.dice.IntN(3) {
			at := m.dice.IntN(len(b) + 1)
			switch to := min(len(b), at+m.dice.IntN(4)); m.dice.IntN(3) {
			case 0:
				b = slices.Delete(b, at, to)
			case 1:
				b = slices.Insert(b, at, b[at:to]...)
			default:
				b = slices.Insert(b, at, bytes[m.dice.IntN(len(bytes))])
			}
		}
		if m.one(10) {
			b = []byte(pick(m, "", "[", "[Script Info]\n", few, "\ufeff"+few+"Dialogue: ", few+"Dialogue: 0:00:01.00,0:00:02.00,"))
			for range m.dice.IntN(20) {
				b = append(b, bytes[m.dice.IntN(len(bytes))])
			}
		}
		holdParse(t, string(b))
	}
}

// TestParseShort: P1703 of all files of few parts, by the words.
func TestParseShort(t *testing.T) {
	l := []string{"\n", "\r", "\r\n", "[Script Info]", "[Events]", "[", "Format: ", "Start", "End", "Text", "Dialogue: ", "0:00:01.00", "0:00:02.00", ",", ";", "Comment:", " ", "\ufeff"}
	var all func(s string, more int)
	all = func(s string, more int) {
		holdParse(t, s)
		for _, part := range l {
			if more > 0 {
				all(s+part, more-1)
			}
		}
	}
	all("", 4)
	all("[Script Info]\n", 4)
	all("[Script Info]\r[Events]\r", 4)
	all("[Script Info]\r\n[Events]\r\nFormat: Start,End", 4)
	all("\ufeff"+few, 4)
	all(few+"Dialogue: 0:00:01.00,0:00:02.00", 4)
}

// padded is a file of so many bytes: a head, fields, a cue and a long line that says nothing.
func padded(size int) string {
	s := few + "Dialogue: 0:00:01.00,0:00:02.00,a\n;"
	return s + strings.Repeat("x", size-len(s)-1) + "\n"
}

// TestParseLong: P1703: the line at which a file is too long, wherever that is in it, by the words.
func TestParseLong(t *testing.T) {
	seen := map[api.Errno]int{}
	for _, size := range []int{1 << 22, 1<<22 - 1} {
		if n := len(padded(size)); n != size || holdParse(t, padded(size)) != (api.Fault{}) {
			t.Fatal(n, size)
		}
	}
	for _, tail := range []string{
		"Dialogue: 0:00:01.00,0:00:02.00,b\nx\n",
		"Dialogue: 0:00:01.00,0:00:02.00,b\r\n\r\n[x]\r\n\r\n",
		"\r\r[x]\r\ry\r\r\n\n[Events]\r\nx\r\n",
		"x\n\n", "x\r\n\r\n", "x\r\r", ";\r\n;\n", "Comment:\r",
		"Format: Start,End,Text\r\n\r\n",
		"Dialogue: 0:00:01.00,x,\r\n\r\n",
		"Dialogue: 0:00:01.00,0:00:00.00,\r\n",
		"Dialogue: 0:00:00.00,0:00:02.00,\n\n",
	} {
		for at := range len(tail) + 1 {
			seen[holdParse(t, padded(1<<22-at)+tail).Err]++
			// The bytes behind the one that is too many tell nothing more; without them a line may end, or the file.
			if at < len(tail) {
				seen[holdParse(t, padded(1<<22-at)+tail[:at+1]).Err]++
			}
		}
	}
	tried(t, seen, 2, api.OK, api.ErrLine, api.ErrTime, api.ErrBack, api.ErrOrder, api.ErrLong)
}

// TestLongEnds: P1703, 6: a file that tells no fields, or only at its end, and is too long there, by the words.
func TestLongEnds(t *testing.T) {
	const most = 1 << 22
	seen := map[api.Errno]int{}
	for _, head := range []string{"[Script Info]\n", "\ufeff\r\n[Script Info]\r\n[Events]\n;"} {
		for _, tail := range []string{"\n\n", "\r\n\r\n", "\r\r", "\rx\r\n", "\r[Events]\r\nFormat: Start,End,Text\r\n"} {
			for at := range len(tail) + 1 {
				s := head + strings.Repeat("x", most-len(head)-at) + tail
				seen[holdParse(t, s).Err]++
				seen[holdParse(t, s[:min(most+1, len(s))]).Err]++
				seen[holdParse(t, s[:most]).Err]++
			}
		}
	}
	tried(t, seen, 5, api.OK, api.ErrEnd, api.ErrLine, api.ErrLong)
}

// TestLongPlaces: P1703: the place of ErrLong, and the cues ahead of it, said one by one.
func TestLongPlaces(t *testing.T) {
	const most = 1 << 22
	const a = "Dialogue: 0:00:01.00,0:00:02.00,a"
	// a head, and lines, each empty, up to the end of the bytes that may be
	empty := func(s string, behind string) string {
		s = few + s
		return s + strings.Repeat("\n", most-len(s)-len(behind)) + behind
	}
	// the line of the byte too many, behind lines that have these bytes beside the head's and one end each
	behind := func(s string) int { return most - len(few) + 3 - len(s) + 1 }
	for n, x := range []struct {
		s    string
		line int
		cues int
	}{
		{empty("", "") + "\n", behind(""), 0},
		{empty("", "") + "x", behind(""), 0},
		{empty("", "\r") + "\n", behind(""), 0},
		{empty("", "\r") + "\nx", behind(""), 0},
		{empty("", "\r") + "\r", behind(""), 0},
		{empty("", "\r\n") + "\n", behind("\r"), 0},
		{empty("", "x") + "\n", behind("x"), 0},
		{empty("", "x") + "\r\n", behind("x"), 0},
		{empty("", ";") + "x", behind(";"), 0},
		{empty(a+"\n", "") + "\n", behind(a), 1},
		{empty(a+"\n", "") + a, behind(a), 1},
		// the line ahead of the byte is whole
		{empty("", a+"\n") + "\n", behind(a), 1},
		{empty("", a+"\n") + "x", behind(a), 1},
		{empty("", a+"\r") + "\n", behind(a), 1},
		{empty("", a+"\r") + "\n" + a, behind(a), 1},
		{empty("", a+"\r") + "\r", behind(a), 1},
		{empty("", a+"\r") + "x", behind(a), 1},
		{empty("", a+"\r\n") + "\n", behind(a + "\r"), 1},
		// it stands in the line, its end among it
		{empty("", a) + "\n", behind(a), 0},
		{empty("", a) + "\r", behind(a), 0},
		{empty("", a) + "\r\n", behind(a), 0},
		{empty("", a) + "x", behind(a), 0},
		{empty("", a[:20]) + a[20:], behind(a[:20]), 0},
		// ahead of the faults of the same line, and in lines that are passed over
		{few + strings.Repeat("x", most), 4, 0},
		{few + ";" + strings.Repeat("x", most), 4, 0},
		{few + "[" + strings.Repeat("x", most), 4, 0},
		{few + a + "\n[x]\n" + strings.Repeat("x", most), 6, 1},
		{few + a + strings.Repeat("x", most), 4, 0},
		{few + a + "\nDialogue: 0:00:00.00,x," + strings.Repeat("x", most), 5, 1},
		{"[Script Info]\n[Events]\nFormat: " + strings.Repeat("x", most), 3, 0},
		{strings.Repeat("x", most+1), 1, 0},
		{"\ufeff" + strings.Repeat("x", most), 1, 0},
		{"[Script Info]" + strings.Repeat("x", most), 1, 0},
		{strings.Repeat("\n", most+1), most + 1, 0},
		{strings.Repeat("\n", most) + "[Script Info]", most + 1, 0},
		{strings.Repeat("\r\n", most), most/2 + 1, 0},
		{strings.Repeat("\n", most-1) + "\r\n", most + 1, 0},
		{"[Script Info]\n" + strings.Repeat("\n", most-15) + "\r\n", most - 14 + 2, 0},
	} {
		d, f := ass.Parse([]byte(x.s))
		if f != (api.Fault{Err: api.ErrLong, Line: x.line, Col: 1}) || !sameDoc(d, times(x.cues, low(1, 2, "a"))) {
			t.Errorf("%d: %d, %v; want %d, line %d", n, len(d.Cues), f, x.cues, x.line)
		}
		if _, f := ass.Parse([]byte(x.s[:most])); f == (api.Fault{Err: api.ErrLong, Line: x.line, Col: 1}) {
			t.Errorf("%d: %v of a file that is not too long", n, f)
		}
	}
	// A fault in a line ahead is the first one; so is that of a file which is not too long.
	for s, want := range map[string]api.Fault{
		strings.Repeat("\n", most):                                                   {Err: api.ErrHead, Line: most + 1, Col: 1},
		strings.Repeat("\n", most-1) + "\r":                                          {Err: api.ErrHead, Line: most + 1, Col: 1},
		"[Script Info]\n" + strings.Repeat("\n", most-15) + "\r":                     {Err: api.ErrEnd, Line: most - 14 + 2, Col: 1},
		"x\n" + strings.Repeat("x", most):                                            {Err: api.ErrHead, Line: 1, Col: 1},
		strings.Repeat("x", most-1) + "\r\n":                                         {Err: api.ErrHead, Line: 1, Col: 1},
		few + "x\n" + strings.Repeat("\n", most):                                     {Err: api.ErrLine, Line: 4, Col: 1},
		few + a + strings.Repeat("x", most-len(few+a)-1) + "\r\n":                    {Err: api.ErrLong, Line: 4, Col: 33},
		few + a + "\nDialogue: 0:00:00.00,0:00:01.00,\n" + strings.Repeat("x", most): {Err: api.ErrOrder, Line: 5, Col: 1},
		"[Script Info]\n[Events]\nFormat: x\r" + strings.Repeat("x", most):           {Err: api.ErrLine, Line: 3, Col: 1},
	} {
		if _, f := ass.Parse([]byte(s)); f != want {
			t.Errorf("%.20q: %v; want %v", s, f, want)
		}
	}
}

// TestWriteWords: P1701, P1702 of right documents, by the words.
func TestWriteWords(t *testing.T) {
	m, lossy := newMaker(3), 0
	for range 10000 {
		d := m.doc(6)
		can := api.Can{Dialect: api.DBrace, Grid: r(1, 100), Lane: true, Side: true, Name: true, Blank: true}
		kept, lost, err := cue.Keep(d, can)
		got, lost1, err1 := ass.Keep(d)
		if err != nil || err1 != nil || !sameDoc(got, kept) || !slices.Equal(lost, lost1) {
			t.Fatalf("Keep(%+v): %+v, %v, %v; want %+v, %v, %v", d, got, lost1, err1, kept, lost, err)
		}
		b, lost2, err2 := ass.Write(d)
		if err2 != nil || string(b) != writeWords(kept) || !slices.Equal(lost, lost2) {
			t.Fatalf("Write(%+v): %q, %v, %v; want %q, %v", d, b, lost2, err2, writeWords(kept), lost)
		}
		if len(lost) > 0 {
			lossy++
		}
	}
	if lossy < 3000 || lossy > 9700 {
		t.Errorf("%d of 10000 lose something: the documents try too little", lossy)
	}
}
