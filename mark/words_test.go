package mark_test

import (
	"fmt"
	"math/rand/v2"
	"regexp"
	"slices"
	"strconv"
	"strings"
	"testing"
	"unicode/utf8"

	"surtitle/api"
	"surtitle/mark"
	"surtitle/style"
)

// What stands here says the chapter's words by patterns, sign by sign, slowly, to hold the program against.

// signsIn tells the bytes of each sign (W1).
func signsIn(s string) []string {
	var l []string
	for s != "" {
		_, n := utf8.DecodeRuneInString(s)
		l = append(l, s[:n])
		s = s[n:]
	}
	return l
}

// melt: W2.
func melt(a, b string) bool {
	return !slices.Equal(signsIn(a+b), append(signsIn(a), signsIn(b)...))
}

// heap is signs, and how each looks.
type heap struct {
	signs []string
	looks []api.Attr
}

func (h *heap) add(sign string, a api.Attr) {
	h.signs = append(h.signs, sign)
	h.looks = append(h.looks, a)
}

// made is style.Make of the signs and their longest runs.
func (h *heap) made() (api.Text, api.Errno) {
	var runs []api.Run
	for at := 0; at < len(h.signs); {
		to := at + 1
		for to < len(h.signs) && h.looks[to] == h.looks[at] {
			to++
		}
		runs = append(runs, api.Run{From: at, To: to, Attr: h.looks[at]})
		at = to
	}
	return style.Make(strings.Join(h.signs, ""), runs)
}

func heapOf(t api.Text) heap {
	var h heap
	for g, a := range style.Signs(t) {
		h.add(t.S[g.At:g.At+g.Len], a)
	}
	return h
}

// hex tells the number of digits, from the left or, if it is turned, pair by pair from the right.
func hex(s string, turn bool) int {
	if turn {
		s = s[4:] + s[2:4] + s[:2]
	}
	n, err := strconv.ParseInt(s, 16, 64)
	if err != nil {
		panic(err)
	}
	return int(n)
}

var entities = strings.NewReplacer("&lt;", "<", "&gt;", ">", "&amp;", "&", "&nbsp;", "\u00a0", "&lrm;", "\u200e", "&rlm;", "\u200f")

var (
	entityHere  = regexp.MustCompile(`^&(lt|gt|amp|nbsp|lrm|rlm);`)
	nameHere    = regexp.MustCompile(`^<v ([^>]+)>`)
	control     = regexp.MustCompile(`[\x00-\x1f]`)
	angleHere   = regexp.MustCompile(`^<(/?)(b|i|u|s|font)( color="#([0-9a-fA-F]{6})")?>`)
	voiceHere   = regexp.MustCompile(`^<(/?)(b|i|u|c)(\.([0-9a-fA-F]{6}))?>`)
	lineHere    = regexp.MustCompile(`^(\{y:[bius](,[bius])*\}|\{c:\$[0-9a-fA-F]{6}\})*`)
	linePart    = regexp.MustCompile(`y:[bius,]+|\$[0-9a-fA-F]{6}`)
	ordersHere  = regexp.MustCompile(`^\{(\\[bius][01]|\\c&H[0-9a-fA-F]{6}&|\\c)+\}`)
	ordersFirst = regexp.MustCompile(`^\{(\\[bius][01]|\\c&H[0-9a-fA-F]{6}&|\\c|\\an8)+\}`)
	orderPart   = regexp.MustCompile(`\\[bius][01]|\\c&H[0-9a-fA-F]{6}&|\\c|\\an8`)
)

// parseWords: P801.
func parseWords(dialect int, s string) (mark.Marked, api.Errno) {
	var h heap
	var m mark.Marked
	switch dialect {
	case api.DAngle:
		h = tagWords(angleHere, "font", false, s)
	case api.DVoice:
		if at := nameHere.FindStringSubmatch(s); at != nil {
			if name := entities.Replace(at[1]); len(name) <= 64 && !control.MatchString(name) {
				m.Name = name
				s = s[len(at[0]):]
			}
		}
		h = tagWords(voiceHere, "c", true, s)
	case api.DPipe:
		h = pipeWords(s)
	case api.DBrace:
		h, m.Side = braceWords(s)
	}
	t, e := h.made()
	if e != api.OK {
		return mark.Marked{}, e
	}
	m.Text = t
	return m, api.OK
}

// openTag is one that was opened and not closed.
type openTag struct {
	name  string
	value int
}

func tagWords(here *regexp.Regexp, colour string, words bool, s string) heap {
	var h heap
	var open []openTag
	for s != "" {
		if word := entityHere.FindString(s); words && word != "" {
			h.add(entities.Replace(word), lookWithin(open, colour))
			s = s[len(word):]
			continue
		}
		tag := here.FindStringSubmatch(s)
		// Only the tag that opens a colour has digits.
		isForm := tag != nil && (tag[3] != "") == (tag[2] == colour && tag[1] == "")
		if isForm {
			isForm = !melt(strings.Join(h.signs, ""), s[len(tag[0]):])
		}
		if isForm && tag[1] == "/" {
			at := lastOpen(open, tag[2])
			if isForm = at >= 0; isForm {
				open = slices.Delete(open, at, at+1)
			}
		} else if isForm {
			x := openTag{name: tag[2]}
			if x.name == colour {
				x.value = hex(tag[4], false)
			}
			open = append(open, x)
		}
		if isForm {
			s = s[len(tag[0]):]
			continue
		}
		sign := signsIn(s)[0]
		h.add(sign, lookWithin(open, colour))
		s = s[len(sign):]
	}
	return h
}

// lastOpen tells which open tag is the last one of that name; -1: none.
func lastOpen(open []openTag, name string) int {
	for at := len(open) - 1; at >= 0; at-- {
		if open[at].name == name {
			return at
		}
	}
	return -1
}

func lookWithin(open []openTag, colour string) api.Attr {
	a := api.Attr{Bold: lastOpen(open, "b") >= 0, Italic: lastOpen(open, "i") >= 0, Under: lastOpen(open, "u") >= 0, Strike: lastOpen(open, "s") >= 0}
	if at := lastOpen(open, colour); at >= 0 {
		a.Colour = open[at].value + 1
	}
	return a
}

func pipeWords(s string) heap {
	var h heap
	lines := strings.Split(s, "|")
	for n, line := range lines {
		var a api.Attr
		forms := lineHere.FindString(line)
		for _, part := range linePart.FindAllString(forms, -1) {
			if part[0] == '$' {
				a.Colour = hex(part[1:], true) + 1
				continue
			}
			a.Bold = a.Bold || strings.Contains(part, "b")
			a.Italic = a.Italic || strings.Contains(part, "i")
			a.Under = a.Under || strings.Contains(part, "u")
			a.Strike = a.Strike || strings.Contains(part, "s")
		}
		for _, sign := range signsIn(line[len(forms):]) {
			h.add(sign, a)
		}
		if n < len(lines)-1 {
			h.add("\n", a)
		}
	}
	return h
}

func braceWords(s string) (heap, int) {
	var h heap
	var a api.Attr
	side, here := api.Low, ordersFirst
	for s != "" {
		form := here.FindString(s)
		here = ordersHere
		if form != "" && !melt(strings.Join(h.signs, ""), s[len(form):]) {
			for _, part := range orderPart.FindAllString(form, -1) {
				if part == `\an8` {
					side = api.High
				} else {
					obey(&a, part)
				}
			}
			s = s[len(form):]
			continue
		}
		if strings.HasPrefix(s, `\N`) {
			h.add("\n", a)
			s = s[2:]
			continue
		}
		sign := signsIn(s)[0]
		h.add(sign, a)
		s = s[len(sign):]
	}
	return h, side
}

func obey(a *api.Attr, order string) {
	on := strings.HasSuffix(order, "1")
	switch order[1] {
	case 'b':
		a.Bold = on
	case 'i':
		a.Italic = on
	case 'u':
		a.Under = on
	case 's':
		a.Strike = on
	case 'c':
		a.Colour = 0
		if len(order) > 2 {
			a.Colour = hex(order[4:10], true) + 1
		}
	}
}

// unsaidWords: P802 and W10: what stands for a sign; itself, if it can be said.
func unsaidWords(dialect int, sign string) string {
	alike := map[string]string{"<": "\uff1c", ">": "\uff1e", "{": "\uff5b", "}": "\uff5d", "|": "\uff5c", "\\": "\uff3c"}
	can := map[int]string{api.DAngle: "{}|\\", api.DVoice: "<>{}|\\", api.DPipe: "<>\\", api.DBrace: "<>|"}
	switch {
	case len(sign) == 1 && sign[0] < 32 && sign != "\n":
		return " "
	case alike[sign] != "" && !strings.Contains(can[dialect], sign):
		return alike[sign]
	}
	return sign
}

// keepWords: P803, of a right text.
func keepWords(dialect int, t api.Text, blank bool) kept {
	var k kept
	h := heapOf(t)
	for n, sign := range h.signs {
		h.signs[n] = unsaidWords(dialect, sign)
		if h.signs[n] != sign {
			k.signs++
		}
	}
	if !blank {
		var full heap
		for n, sign := range h.signs {
			only := strings.Trim(strings.Join(h.signs[n:], ""), "\n") == ""
			if sign == "\n" && (n == 0 || h.signs[n-1] == "\n" || only) {
				k.lines++
			} else {
				full.add(sign, h.looks[n])
			}
		}
		h = full
	}
	was := slices.Clone(h.looks)
	for n := range h.looks {
		a := &h.looks[n]
		switch dialect {
		case api.DVoice:
			a.Strike = false
		case api.DPipe:
			for _, other := range lineAround(h.signs, was, n) {
				a.Bold = a.Bold && other.Bold
				a.Italic = a.Italic && other.Italic
				a.Under = a.Under && other.Under
				a.Strike = a.Strike && other.Strike
				if a.Colour != other.Colour {
					a.Colour = 0
				}
			}
		}
		if *a != was[n] {
			k.spans++
		}
	}
	k.text, k.e = h.made()
	if k.e != api.OK {
		return kept{e: k.e}
	}
	return k
}

// lineAround tells the looks of all signs of the line in which a sign stands, its end among them.
func lineAround(signs []string, looks []api.Attr, n int) []api.Attr {
	from, to := n, n
	for from > 0 && signs[from-1] != "\n" {
		from--
	}
	for to < len(signs)-1 && signs[to] != "\n" {
		to++
	}
	return looks[from : to+1]
}

// printWords: P805, of what a dialect can say.
func printWords(dialect int, m mark.Marked) string {
	h := heapOf(m.Text)
	switch dialect {
	case api.DPipe:
		return printLineWords(h)
	case api.DBrace:
		return printOrderWords(h, m.Side)
	}
	entity := strings.NewReplacer()
	tags := []string{"b", "i", "u", "s", "font"}
	colour := `<font color="#%06x">`
	if dialect == api.DVoice {
		entity = strings.NewReplacer("<", "&lt;", ">", "&gt;", "&", "&amp;")
		tags[4] = "c"
		colour = "<c.%06x>"
	}
	s := ""
	if m.Name != "" {
		s = "<v " + entity.Replace(m.Name) + ">"
	}
	var open []string
	for n := 0; n <= len(h.signs); n++ {
		want := []string{}
		if n < len(h.signs) {
			want = wantedTags(h.looks[n], colour)
		}
		// What both have from the outside on stays: it is ahead of the first in which they differ.
		same := 0
		for same < min(len(open), len(want)) && open[same] == want[same] {
			same++
		}
		for at := len(open) - 1; at >= same; at-- {
			s += "</" + tags[4]
			if at := slices.Index([]string{"<b>", "<i>", "<u>", "<s>"}, open[at]); at >= 0 {
				s = strings.TrimSuffix(s, tags[4]) + tags[at]
			}
			s += ">"
		}
		s += strings.Join(want[same:], "")
		open = want
		if n < len(h.signs) {
			s += entity.Replace(h.signs[n])
		}
	}
	return s
}

// wantedTags tells the tags within which a sign stands, in their order.
func wantedTags(a api.Attr, colour string) []string {
	l := []string{}
	for n, has := range []bool{a.Bold, a.Italic, a.Under, a.Strike} {
		if has {
			l = append(l, "<"+"bius"[n:n+1]+">")
		}
	}
	if a.Colour > 0 {
		l = append(l, fmt.Sprintf(colour, a.Colour-1))
	}
	return l
}

// turnedDigits are great digits: blue, green, red.
func turnedDigits(colour int) string {
	s := fmt.Sprintf("%06X", colour-1)
	return s[4:] + s[2:4] + s[:2]
}

func printLineWords(h heap) string {
	s := ""
	for n, sign := range h.signs {
		if n == 0 || h.signs[n-1] == "\n" {
			a := h.looks[n]
			letters := strings.Join(wantedTags(api.Attr{Bold: a.Bold, Italic: a.Italic, Under: a.Under, Strike: a.Strike}, ""), ",")
			if letters != "" {
				s += "{y:" + strings.NewReplacer("<", "", ">", "").Replace(letters) + "}"
			}
			if a.Colour > 0 {
				s += "{c:$" + turnedDigits(a.Colour) + "}"
			}
		}
		if sign == "\n" {
			sign = "|"
		}
		s += sign
	}
	return s
}

func printOrderWords(h heap, side int) string {
	s := ""
	var was api.Attr
	order := func(letter string, was, is bool) string {
		switch {
		case is && !was:
			return `\` + letter + "1"
		case was && !is:
			return `\` + letter + "0"
		}
		return ""
	}
	for n, sign := range h.signs {
		a := h.looks[n]
		orders := ""
		if n == 0 && side == api.High {
			orders = `\an8`
		}
		orders += order("b", was.Bold, a.Bold) + order("i", was.Italic, a.Italic) + order("u", was.Under, a.Under) + order("s", was.Strike, a.Strike)
		if a.Colour != was.Colour && a.Colour == 0 {
			orders += `\c`
		} else if a.Colour != was.Colour {
			orders += `\c&H` + turnedDigits(a.Colour) + "&"
		}
		if orders != "" {
			s += "{" + orders + "}"
		}
		s += strings.ReplaceAll(sign, "\n", `\N`)
		was = a
	}
	if len(h.signs) == 0 && side == api.High {
		s = `{\an8}`
	}
	return s
}

// piecesOf are parts of which texts are made that are read by a dialect: forms, what is nearly one, signs of all kinds.
func piecesOf(dialect int) []string {
	l := []string{"a", " ", "\n", "é", "\xc3", "\xa9", "\xe2", "\x82"}
	switch dialect {
	case api.DAngle:
		return append(l, "<b>", "</b>", "<i>", "</i>", "<s>", "</s>", `<font color="#00FF1a">`, `<font color="#000000">`, "</font>", "<", ">", "</u>", "<font>", "<u>")
	case api.DVoice:
		return append(l, "<v Ann>", "<v ", ">", "<b>", "</b>", "<u>", "</u>", "<c.00FF1a>", "<c.000000>", "</c>", "&lt;", "&gt;", "&amp;", "&nbsp;", "&", "<s>", "lt;", "\x01")
	case api.DPipe:
		return append(l, "|", "|", "|", "{y:b}", "{y:i,s}", "{c:$00FF1a}", "{c:$000000}", "{y:u,", "b}", "{", "}", "{y:s,b,i}")
	}
	return append(l, `\N`, `{\b1}`, `{\b0}`, `{\i1\b0}`, `{\an8}`, `{\an8\s1}`, `{\c&H00FF1a&}`, `{\c}`, `{\c&H000000&\u1}`, "{", `\b1`, `\c`, `\an8`, "}", `\`)
}

// holdParseWords complains if a text is not read as the words say.
func holdParseWords(t *testing.T, dialect int, s string) api.Errno {
	t.Helper()
	m, e := mark.Parse(dialect, s)
	want, f := parseWords(dialect, s)
	if e != f || m.Name != want.Name || m.Side != want.Side || !sameText(m.Text, want.Text) {
		t.Fatalf("Parse(%d, %q): %+v, %v; want %+v, %v", dialect, s, m, e, want, f)
	}
	return e
}

// TestParseAllShort: P801 of all texts of up to three parts.
func TestParseAllShort(t *testing.T) {
	for _, dialect := range dialects() {
		l := piecesOf(dialect)
		for _, x := range l {
			for _, y := range l {
				holdParseWords(t, dialect, x+y)
				for _, z := range l {
					holdParseWords(t, dialect, x+y+z)
				}
			}
		}
	}
}

// maker makes texts by dice.
type maker struct {
	dice *rand.Rand
}

func newMaker(seed uint64) maker { return maker{rand.New(rand.NewPCG(seed, 8))} }

// of is a text of up to most of these parts.
func (m maker) of(l []string, most int) string {
	s := ""
	for range m.dice.IntN(most + 1) {
		s += l[m.dice.IntN(len(l))]
	}
	return s
}

// TestParseMany: P801 of longer texts, of the parts of all dialects.
func TestParseMany(t *testing.T) {
	m := newMaker(1)
	var all []string
	for _, dialect := range dialects() {
		all = append(all, piecesOf(dialect)...)
	}
	for range 4000 {
		for _, dialect := range dialects() {
			holdParseWords(t, dialect, m.of(piecesOf(dialect), 14))
			holdParseWords(t, dialect, m.of(all, 8))
		}
	}
}

// crowdOf are parts that look otherwise than what stands around them.
func crowdOf(dialect int) []string {
	switch dialect {
	case api.DAngle:
		return []string{"x<b>y</b>", "<i>a<u>b</u>c</i>", `<font color="#00FF1a">z</font>`, "<s>", "</s>", "<"}
	case api.DVoice:
		return []string{"x<b>y</b>", "<i>a<u>b</u>c</i>", "<c.00FF1a>z</c>", "<u>", "</u>", "&amp;"}
	case api.DPipe:
		return []string{"{y:b}x|y|", "{y:i,u}a|", "|{c:$00FF1a}z|", "{y:s}|"}
	}
	return []string{`x{\b1}y{\b0}`, `{\i1}a{\u1\c&H00FF1a&}b{\u0\i0}`, `{\c}z`, `{\s1}`, `{\s0}`, `\N`}
}

// TestParseCrowded: P801 of texts with about as many spans as may be.
func TestParseCrowded(t *testing.T) {
	m := newMaker(2)
	for _, dialect := range dialects() {
		errors := map[api.Errno]int{}
		for n := range 12 {
			s := ""
			for range 40 * (n + 1) {
				s += m.of(crowdOf(dialect), 2)
			}
			errors[holdParseWords(t, dialect, s)]++
		}
		if errors[api.OK] < 2 || errors[api.ErrMany] < 2 {
			t.Errorf("dialect %d: %v: the texts try too little", dialect, errors)
		}
	}
}

// text is a right one, more often one with long spans, of signs that dialects can say or can't.
func (m maker) text(most, spans int) api.Text {
	l := []string{"a", "b", "\n", "\n", "é", "\xc3", "\xa9", "\xe2", "\x82"}
	if m.dice.IntN(2) == 0 {
		l = append(l, "<", ">", "&", "{", "}", "|", "\\", "\t", "&amp;", "<b>", "N")
	}
	x := api.Text{S: m.of(l, most)}
	n := len(signsIn(x.S))
	for range m.dice.IntN(spans + 1) {
		if n == 0 {
			break
		}
		from := m.dice.IntN(n)
		to := from + 1 + m.dice.IntN(n-from)
		if m.dice.IntN(3) == 0 {
			from, to = 0, n
		}
		y := api.Span{From: from, To: to, Kind: api.KBold + m.dice.IntN(5)}
		if y.Kind == api.KColour {
			y.Value = []int{0, 1, 0xabcdef, 0xffffff}[m.dice.IntN(4)]
		}
		if more := append(slices.Clone(x.Spans), y); style.Check(api.Text{S: x.S, Spans: more}) == api.OK {
			x.Spans = more
		}
	}
	return x
}

// TestKeepWords: P803 of many texts.
func TestKeepWords(t *testing.T) {
	m := newMaker(3)
	for range 6000 {
		x := m.text(10, 8)
		for _, dialect := range dialects() {
			for _, blank := range []bool{true, false} {
				if got, want := keep(dialect, x, blank), keepWords(dialect, x, blank); !got.is(want) {
					t.Fatalf("Keep(%d, %+v, %v): %+v; want %+v", dialect, x, blank, got, want)
				}
			}
		}
	}
}

// TestPrintWords: P805 of many texts: refused just where Keep tells signs or spans, or a name, a side can't be said.
func TestPrintWords(t *testing.T) {
	m := newMaker(4)
	told := map[int]int{}
	for range 6000 {
		x := mark.Marked{Text: m.text(8, 5)}
		if m.dice.IntN(3) == 0 {
			x.Name = m.of([]string{"Ann", "<", ">", "&", " ", ",", "\xc3"}, 4)
		}
		if m.dice.IntN(3) == 0 {
			x.Side = api.High
		}
		for _, dialect := range dialects() {
			k := keepWords(dialect, x.Text, true)
			can := k.e == api.OK && k.signs == 0 && k.spans == 0 && (x.Name == "" || dialect == api.DVoice) && (x.Side == api.Low || dialect == api.DBrace)
			want, f := "", api.ErrText
			if can {
				want, f = printWords(dialect, x), api.OK
				told[dialect]++
			}
			if s, e := mark.Print(dialect, x); s != want || e != f {
				t.Fatalf("Print(%d, %+v): %q, %v; want %q, %v", dialect, x, s, e, want, f)
			}
		}
	}
	for _, dialect := range dialects() {
		if told[dialect] < 500 {
			t.Errorf("dialect %d: only %d are told: the texts try too little", dialect, told[dialect])
		}
	}
}
