package shell_test

import (
	"fmt"
	"math/big"
	"math/rand/v2"
	"regexp"
	"slices"
	"strconv"
	"strings"
	"testing"
	"unicode/utf8"

	"surtitle/api"
	"surtitle/ass"
	"surtitle/bidi"
	"surtitle/cell"
	"surtitle/code"
	"surtitle/conv"
	"surtitle/cue"
	"surtitle/dual"
	"surtitle/edit"
	"surtitle/frm"
	"surtitle/lane"
	"surtitle/ratio"
	"surtitle/retime"
	"surtitle/shell"
	"surtitle/speed"
	"surtitle/srt"
	"surtitle/style"
	"surtitle/sweep"
	"surtitle/utf"
	"surtitle/vtt"
	"surtitle/wrap"
)

// What stands here says the chapter's words once more, with patterns and by one row of cases, to hold the program against.

// A pattern goes by runes: bytes are made runes of the same number first.
var (
	wordPattern   = regexp.MustCompile(`^[ \t]*(?s:"((?:[^"\\]|\\[\\"nt]|\\x[0-9a-f]{2})*)"(?:[ \t]|$)|([^ \t"#][^ \t"]*)(?:[ \t]|$))`)
	overPattern   = regexp.MustCompile(`^[ \t]*(?:#|$)`)
	escapePattern = regexp.MustCompile(`\\[\\"nt]|\\x[0-9a-f]{2}`)
	numberPattern = regexp.MustCompile(`^(0|-?[1-9][0-9]*)$`)
	ratioPattern  = regexp.MustCompile(`^-?(0|[1-9][0-9]*)(/(0|[1-9][0-9]*)|\.[0-9]{1,9})?$`)
	namePattern   = regexp.MustCompile(`^[a-z]{1,8}$`)
)

// widened tells bytes as runes, narrowed the bytes.
func widened(s string) string {
	var l []rune
	for _, b := range []byte(s) {
		l = append(l, rune(b))
	}
	return string(l)
}

func narrowed(s string) string {
	var l []byte
	for _, r := range s {
		l = append(l, byte(r))
	}
	return string(l)
}

func meant(s string) string {
	switch s {
	case `\n`:
		return "\n"
	case `\t`:
		return "\t"
	case `\\`, `\"`:
		return s[1:]
	}
	n, _ := strconv.ParseUint(s[2:], 16, 8)
	return string(rune(n))
}

// wordsWords: P2201: Words.
func wordsWords(line string) ([]string, bool) {
	var l []string
	line = widened(line)
	for !overPattern.MatchString(line) {
		found := wordPattern.FindStringSubmatchIndex(line)
		if found == nil {
			return nil, false
		}
		if found[2] >= 0 {
			l = append(l, narrowed(escapePattern.ReplaceAllStringFunc(line[found[2]:found[3]], meant)))
		} else {
			l = append(l, narrowed(line[found[4]:found[5]]))
		}
		line = line[found[1]:]
	}
	return l, true
}

// quoteWords: P2201: Quote.
func quoteWords(s string) string {
	q := `"`
	for s != "" {
		r, n := utf8.DecodeRuneInString(s)
		switch {
		case r == '\\' || r == '"':
			q += `\` + s[:1]
		case r == '\n':
			q += `\n`
		case r == '\t':
			q += `\t`
		case r == utf8.RuneError && n == 1 || r < 32 || r == 127:
			q += fmt.Sprintf(`\x%02x`, s[0])
		default:
			q += s[:n]
		}
		s = s[n:]
	}
	return q + `"`
}

// script is what a script has, as the words say it: documents, each with all that it can be brought back to.
type script struct {
	docs map[string]*history
	met  map[string]int // answers, by command
}

// history is the documents that can be gone to, and at which it is.
type history struct {
	all []api.Doc
	at  int
}

// refusal is an answer that ends a line.
type refusal string

// line is one, by its words.
type line struct {
	*script
	words []string
}

func stopIf(yes bool, why string) {
	if yes {
		panic(refusal(why))
	}
}

func stopAt(err error) {
	stopIf(err != nil, fmt.Sprint(err))
}

func stopBy(e api.Errno) {
	stopIf(e != api.OK, e.Error())
}

// runWords: P2202: Run.
func runWords(s string, met map[string]int) string {
	if len(s) > 65536 || strings.Count(s, "\n") > 512 || strings.Count(s, "\n") == 512 && !strings.HasSuffix(s, "\n") {
		return "long\n"
	}
	x := &script{docs: map[string]*history{}, met: met}
	var out strings.Builder
	for s != "" {
		var l string
		l, s, _ = strings.Cut(s, "\n")
		answer := x.answer(l)
		if len(answer) > 131072 {
			answer = "long"
		}
		out.WriteString(answer + "\n")
	}
	return out.String()
}

func (x *script) answer(s string) (answer string) {
	words, ok := wordsWords(s)
	if !ok {
		return "word"
	}
	if len(words) == 0 {
		return ""
	}
	defer func() {
		if r, ok := recover().(refusal); ok {
			answer = string(r)
		}
		first, _, _ := strings.Cut(answer, " ")
		x.met[words[0]+" "+first]++
	}()
	told := line{x, words}.do()
	return strings.TrimSuffix("ok "+strings.Join(told, " "), " ")
}

// What a word says; none of its kind ends the line.

func (l line) has(many ...int) {
	stopIf(!slices.Contains(many, len(l.words)-1), "word")
}

func (l line) name(at int) string {
	stopIf(!namePattern.MatchString(l.words[at]), "word")
	return l.words[at]
}

func (l line) number(at int) int {
	stopIf(!numberPattern.MatchString(l.words[at]), "word")
	n, ok := new(big.Int).SetString(l.words[at], 10)
	stopIf(!ok || !n.IsInt64(), "word")
	return int(n.Int64())
}

func (l line) ratio(at int) api.Ratio {
	r, e := ratio.Parse(l.words[at])
	stopIf(!ratioPattern.MatchString(l.words[at]) || e != api.OK, "word")
	return r
}

func (l line) rate(at int) api.Rate {
	r, e := code.Rate(l.words[at])
	stopIf(e != api.OK, "word")
	return r
}

// among tells which of some words it is, from 1 on.
func (l line) among(at int, words ...string) int {
	n := slices.Index(words, l.words[at])
	stopIf(n < 0, "word")
	return n + 1
}

func (l line) format(at int) int { return l.among(at, "srt", "vtt", "frm", "ass") }

func (l line) unit(at int) int { return l.among(at, "bytes", "signs", "pairs") }

// doc tells the document as it is.
func (l line) doc(name string) api.Doc {
	h := l.docs[name]
	stopIf(h == nil, "none")
	return h.all[h.at]
}

func (l line) set(name string, d api.Doc) {
	stopIf(len(d.Cues) > 500, "many")
	l.docs[name] = &history{all: []api.Doc{d}}
}

func (l line) edit(name string, e api.Edit) []string {
	log, err := edit.New(l.doc(name))
	stopAt(err)
	stopBy(log.Do(e))
	d := log.Doc()
	stopIf(len(d.Cues) > 500, "many")
	h := l.docs[name]
	h.all = append(slices.Clone(h.all[:h.at+1]), d)
	h.at++
	return nil
}

func (l line) move(name string, by int) []string {
	l.doc(name)
	h := l.docs[name]
	stopIf(h.at+by < 0 || h.at+by >= len(h.all), "none")
	h.at += by
	return nil
}

// write: of a document, with what is lost.
func writeWords(d api.Doc, format int, r api.Rate) ([]byte, []api.Loss, error) {
	switch format {
	case 1:
		return srt.Write(d)
	case 2:
		return vtt.Write(d)
	case 3:
		return frm.Write(d, r)
	}
	return ass.Write(d)
}

func canWords(format int) api.Can {
	switch format {
	case 1:
		return srt.Can()
	case 2:
		return vtt.Can()
	case 3:
		can, _ := frm.Can(api.Rate{Num: 25, Den: 1})
		return can
	}
	return ass.Can()
}

func say(r api.Ratio) string {
	if r.D == 1 {
		return fmt.Sprint(r.N)
	}
	return fmt.Sprintf("%d/%d", r.N, r.D)
}

func cueWords(c api.Cue) string {
	side := "low"
	if c.Side == 1 {
		side = "high"
	}
	s := fmt.Sprintf("%s-%s/%d/%s/%s/%s", say(c.Start), say(c.End), c.Lane, side, quoteWords(c.Name), quoteWords(c.Text.S))
	t, e := style.Norm(c.Text)
	if e != api.OK {
		return s
	}
	for _, x := range t.Spans {
		s += fmt.Sprintf("/%s:%d:%d:%d", []string{"?", "bold", "italic", "under", "strike", "colour"}[x.Kind], x.From, x.To, x.Value)
	}
	return s
}

func lossesWords(l []api.Loss) []string {
	var told []string
	for _, x := range l {
		told = append(told, fmt.Sprintf("%d=%s=%d", x.Cue, []string{"?", "time", "lane", "side", "name", "sign", "line", "style"}[x.Kind], x.N))
	}
	return told
}

func fastWords(l []speed.Fast) []string {
	var told []string
	for _, x := range l {
		told = append(told, fmt.Sprintf("%d=%s", x.Cue, say(x.Lacks)))
	}
	return told
}

// do does a line: the table's rows, one by one.
func (l line) do() []string {
	switch l.words[0] {
	case "new", "read", "write", "convert", "keep":
		return l.doFile()
	case "retime", "move", "trim", "stack", "lanes", "merge", "apart", "fit":
		return l.doDoc()
	case "cues", "cue", "active", "segments", "pairs", "wrap", "rows", "fast", "same", "docs":
		return l.doAsk()
	}
	return l.doEdit()
}

func (l line) doFile() []string {
	switch l.words[0] {
	case "new":
		l.has(1)
		l.set(l.name(1), api.Doc{})
		return nil
	case "read":
		l.has(3)
		name, format, b := l.name(1), l.format(2), []byte(l.words[3])
		var d api.Doc
		var r api.Rate
		var f api.Fault
		switch format {
		case 1:
			d, f = srt.Parse(b)
		case 2:
			d, f = vtt.Parse(b)
		case 3:
			d, r, f = frm.Parse(b)
		case 4:
			d, f = ass.Parse(b)
		}
		stopIf(f.Err != api.OK, fmt.Sprintf("%v at %d %d", f.Err, f.Line, f.Col))
		l.set(name, d)
		told := []string{fmt.Sprint(len(d.Cues))}
		if format == 3 {
			s, e := code.RateText(r)
			stopBy(e)
			told = append(told, s)
		}
		return told
	case "write":
		l.has(2, 3)
		name, format, r := l.name(1), l.format(2), api.Rate{Num: 25, Den: 1}
		if len(l.words) == 4 {
			stopIf(format != 3, "word")
			r = l.rate(3)
		}
		b, lost, err := writeWords(l.doc(name), format, r)
		stopAt(err)
		return append([]string{quoteWords(string(b))}, lossesWords(lost)...)
	case "convert":
		l.has(4)
		name, from, to, r := l.name(1), l.format(2), l.format(3), l.rate(4)
		b, _, err := writeWords(l.doc(name), from, r)
		stopAt(err)
		b, lost, err := conv.Convert(b, from, to, r)
		stopAt(err)
		return append([]string{quoteWords(string(b))}, lossesWords(lost)...)
	}
	l.has(3)
	name, made, format := l.name(1), l.name(2), l.format(3)
	d, lost, err := cue.Keep(l.doc(name), canWords(format))
	stopAt(err)
	l.set(made, d)
	return lossesWords(lost)
}

func (l line) doEdit() []string {
	switch l.words[0] {
	case "lay":
		l.has(5)
		name, e := l.name(1), api.Edit{Op: api.ELay, Cue: l.number(2)}
		e.New = api.Cue{Start: l.ratio(3), End: l.ratio(4), Text: api.Text{S: l.words[5]}}
		return l.edit(name, e)
	case "take":
		l.has(2)
		return l.edit(l.name(1), api.Edit{Op: api.ETake, Cue: l.number(2)})
	case "times":
		l.has(4)
		return l.edit(l.name(1), api.Edit{Op: api.ETimes, Cue: l.number(2), Start: l.ratio(3), End: l.ratio(4)})
	case "text":
		l.has(6)
		return l.edit(l.name(1), api.Edit{Op: api.EText, Cue: l.number(2), Unit: l.unit(3), From: l.number(4), To: l.number(5), Text: api.Text{S: l.words[6]}})
	case "style":
		l.has(7)
		return l.edit(l.name(1), api.Edit{Op: api.EStyle, Cue: l.number(2), Unit: l.unit(3), From: l.number(4), To: l.number(5), Kind: l.among(6, "bold", "italic", "under", "strike", "colour"), Value: l.number(7)})
	case "shift":
		l.has(4)
		return l.edit(l.name(1), api.Edit{Op: api.EShift, Cue: l.number(2), To: l.number(3), Start: l.ratio(4)})
	case "split":
		l.has(5)
		return l.edit(l.name(1), api.Edit{Op: api.ESplit, Cue: l.number(2), Unit: l.unit(3), From: l.number(4), Start: l.ratio(5)})
	case "join":
		l.has(2)
		return l.edit(l.name(1), api.Edit{Op: api.EJoin, Cue: l.number(2)})
	case "place":
		l.has(4)
		return l.edit(l.name(1), api.Edit{Op: api.EPlace, Cue: l.number(2), Lane: l.number(3), Side: l.number(4)})
	case "name":
		l.has(3)
		return l.edit(l.name(1), api.Edit{Op: api.ERename, Cue: l.number(2), Name: l.words[3]})
	case "undo":
		l.has(1)
		return l.move(l.name(1), -1)
	case "redo":
		l.has(1)
		return l.move(l.name(1), 1)
	}
	stopIf(true, "word")
	return nil
}

func (l line) doDoc() []string {
	count := func(d api.Doc) string { return fmt.Sprint(len(d.Cues)) }
	switch l.words[0] {
	case "retime":
		stopIf(len(l.words) < 5 || len(l.words)%2 == 0, "word")
		name, made := l.name(1), l.name(2)
		var knots []api.Knot
		for at := 3; at < len(l.words); at += 2 {
			knots = append(knots, api.Knot{In: l.ratio(at), Out: l.ratio(at + 1)})
		}
		was := l.doc(name)
		m, e := retime.New(knots)
		stopBy(e)
		d, err := cue.Retime(was, m)
		stopAt(err)
		l.set(made, d)
		return nil
	case "move":
		l.has(3)
		name, made, by := l.name(1), l.name(2), l.ratio(3)
		d, err := cue.Shift(l.doc(name), by)
		stopAt(err)
		l.set(made, d)
		return nil
	case "trim", "stack", "lanes":
		l.has(2)
		name, made := l.name(1), l.name(2)
		d, err := map[string]func(api.Doc) (api.Doc, error){"trim": sweep.Trim, "stack": sweep.Stack, "lanes": lane.Lay}[l.words[0]](l.doc(name))
		stopAt(err)
		l.set(made, d)
		return []string{count(d)}
	case "merge":
		l.has(3)
		a, b, made := l.name(1), l.name(2), l.name(3)
		d, err := dual.Merge(l.doc(a), l.doc(b))
		stopAt(err)
		l.set(made, d)
		return []string{count(d)}
	case "apart":
		l.has(3)
		name, one, two := l.name(1), l.name(2), l.name(3)
		x, y, err := dual.Apart(l.doc(name))
		stopAt(err)
		l.set(one, x)
		l.set(two, y)
		return []string{count(x), count(y)}
	}
	l.has(3)
	name, made, signs := l.name(1), l.name(2), l.ratio(3)
	d, fast, err := speed.Fit(l.doc(name), speed.Rules{Signs: signs, Least: api.Ratio{N: 1, D: 1}, Gap: api.Ratio{N: 0, D: 1}})
	stopAt(err)
	l.set(made, d)
	return fastWords(fast)
}

func (l line) doAsk() []string {
	var told []string
	tell := func(format string, x ...any) { told = append(told, fmt.Sprintf(format, x...)) }
	switch l.words[0] {
	case "cues":
		l.has(1)
		for _, c := range l.doc(l.name(1)).Cues {
			tell("%s", cueWords(c))
		}
	case "cue":
		l.has(2)
		name, n := l.name(1), l.number(2)
		d := l.doc(name)
		stopIf(n < 0 || n >= len(d.Cues), "arg")
		s := d.Cues[n].Text.S
		tell("%s %d %d %d", cueWords(d.Cues[n]), utf.Count(s), utf.Pairs(s), cell.Of(s))
	case "active":
		l.has(2)
		name, at := l.name(1), l.ratio(2)
		for n := range cue.Active(l.doc(name), at) {
			tell("%d", n)
		}
	case "segments":
		l.has(1)
		segments, err := sweep.Segments(l.doc(l.name(1)))
		stopAt(err)
		for _, x := range segments {
			tell("%s-%s:%s", say(x.From), say(x.To), strings.ReplaceAll(strings.Trim(fmt.Sprint(x.Cues), "[]"), " ", ","))
		}
	case "pairs":
		l.has(2)
		a, b := l.name(1), l.name(2)
		pairs, err := dual.Pairs(l.doc(a), l.doc(b))
		stopAt(err)
		for _, x := range pairs {
			tell("%d=%d", x[0], x[1])
		}
	case "wrap":
		l.has(3)
		name, n, width := l.name(1), l.number(2), l.number(3)
		d := l.doc(name)
		stopIf(n < 0 || n >= len(d.Cues), "arg")
		s := d.Cues[n].Text.S
		breaks, badness, e := wrap.Wrap(s, width)
		stopBy(e)
		lines, e := wrap.Lines(s, breaks)
		stopBy(e)
		tell("%d", badness)
		for _, x := range lines {
			seen, e := bidi.Visual(x, bidi.Base(s, 0))
			stopBy(e)
			tell("%s", quoteWords(seen))
		}
	case "rows":
		l.has(3)
		name, rows, width := l.name(1), l.number(2), l.number(3)
		places, err := lane.Rows(l.doc(name), rows, width)
		stopAt(err)
		for _, x := range places {
			tell("%d+%d", x.Row, x.Rows)
		}
	case "fast":
		l.has(2)
		name, signs := l.name(1), l.ratio(2)
		fast, err := speed.Look(l.doc(name), speed.Rules{Signs: signs, Least: api.Ratio{N: 1, D: 1}, Gap: api.Ratio{N: 0, D: 1}})
		stopAt(err)
		return fastWords(fast)
	case "same":
		l.has(2)
		a, b := l.name(1), l.name(2)
		x, y := l.doc(a), l.doc(b)
		tell("%s", map[bool]string{true: "yes", false: "no"}[cue.Same(x, y)])
	case "docs":
		l.has(0)
		var names []string
		for name := range l.docs {
			names = append(names, name)
		}
		slices.Sort(names)
		for _, name := range names {
			tell("%s=%d", name, len(l.doc(name).Cues))
		}
	}
	return told
}

// maker makes things by chance, the same each time.
type maker struct{ dice *rand.Rand }

func newMaker(seed uint64) maker { return maker{rand.New(rand.NewPCG(seed, 22))} }

// one tells whether it comes to that: once in so many.
func (m maker) one(in int) bool { return m.dice.IntN(in) == 0 }

func (m maker) below(n int) string { return strconv.Itoa(m.dice.IntN(n)) }

// pick is one of some.
func pick[T any](m maker, l ...T) T { return l[m.dice.IntN(len(l))] }

func (m maker) bytes(most int) string {
	s := ""
	for range m.dice.IntN(most + 1) {
		s += pick(m, "a", "b", "cc ", " ", "-", "é", "\n", "中", "\U0001f600", "\u0301", "א", "ב", "1", "(", ")", "<", ">", "{", "}", "|", `\`, `"`, "\t", "\xc3", "\xa9", "\xe2\x82", "\xac", "\x00", "\x7f", "#", "<b>", "</b>", "&lt;")
	}
	return s
}

// word is bytes as one word: quoted, or as they are, where that may be.
func (m maker) word(s string) string {
	l, ok := wordsWords(s)
	if ok && len(l) == 1 && l[0] == s && !strings.Contains(s, "\n") && m.one(2) {
		return s
	}
	if !m.one(3) {
		return quoteWords(s)
	}
	q := `"` // the same bytes, said otherwise
	for _, b := range []byte(s) {
		if m.one(2) || strings.ContainsRune("\"\\\n", rune(b)) {
			q += fmt.Sprintf(`\x%02x`, b)
		} else {
			q += string([]byte{b})
		}
	}
	return q + `"`
}

func (m maker) name() string { return pick(m, "a", "b", "b", "c", "c", "dd") }

// time is most often a time, of few that there are.
func (m maker) time() string {
	if m.one(30) {
		return pick(m, "-1", "360000", "360001", "1/1048577", "1/2147483648", "4611686018427387904", "359999", "1001/24000", "-1/7")
	}
	return pick(m, "0", "1/2", "1", "3/2", "2", "2.5", "3", "7/2", "4", "4.125", "5", "11/2", "6", "13/2", "7", "8", "1/3", "10/3", "1001/1000", "9")
}

// stretch is two times, most often the lesser one first.
func (m maker) stretch() string {
	n := m.dice.IntN(7)
	from, to := n, n+1+m.dice.IntN(4)
	if m.one(8) {
		return m.time() + " " + m.time()
	}
	return pick(m, strconv.Itoa(from), strconv.Itoa(from)+".25", strconv.Itoa(2*from+1)+"/2", strconv.Itoa(3*from+1)+"/3") + " " + strconv.Itoa(to)
}

func (m maker) numbered() string { return pick(m, m.below(3), m.below(3), m.below(8), "-1") }

func (m maker) place() string { return pick(m, m.below(3), m.below(7), "0") }

func (m maker) rate() string {
	return pick(m, "24", "25", "30", "1", "24000/1001", "30000/1001d", "60000/1001d", "240")
}

func (m maker) format() string { return pick(m, "srt", "vtt", "frm", "ass") }

// file is one of a format, now and then with a fault.
func (m maker) file(format string) string {
	var l []api.Cue
	for range m.dice.IntN(6) {
		n := int64(m.dice.IntN(9))
		l = append(l, api.Cue{Start: api.Ratio{N: n, D: 1}, End: api.Ratio{N: n + 1 + int64(m.dice.IntN(4)), D: 1}, Side: m.dice.IntN(2), Lane: m.dice.IntN(8), Name: pick(m, "", "Ann"), Text: api.Text{S: m.bytes(5)}})
	}
	r, _ := code.Rate(m.rate())
	b, _, err := writeWords(api.Doc{Cues: cue.Sort(l)}, 1+slices.Index([]string{"srt", "vtt", "frm", "ass"}, format), r)
	if err != nil {
		panic(err)
	}
	s := string(b)
	if m.one(12) && format == "srt" { // once more: not in order, if it is more than one
		s += s
	}
	if m.one(4) && s != "" {
		n := m.dice.IntN(len(s))
		s = s[:n] + pick(m, "", "x", "\n", "<b>", "\xff", "9") + s[n+m.dice.IntN(2):]
	}
	return s
}

// line is one for a script; most often it is of a command's form.
func (m maker) line() string {
	words := strings.Fields(pick(m,
		"new D", "read D file", "read D file", "read D file", "write D format", "write D frm rate", "convert D format format rate", "keep D D format",
		"lay D N stretch T", "lay D N stretch T", "lay D N stretch T", "lay D N stretch T", "lay D N stretch T", "take D N", "times D N stretch",
		"text D N unit P P T", "text D N unit P P T", "style D N unit P P kind value", "style D N unit P P kind value", "style D N unit P P kind value",
		"shift D N P A", "shift D 0 N A", "shift D 0 N -1", "shift D 0 1 -1/4", "split D N unit P A", "split D N unit P A", "join D N", "place D N P side", "name D N T",
		"undo D", "undo D", "redo D", "cues D", "cues D", "cue D N", "active D A", "segments D",
		"retime D D A A", "retime D D 0 A 3 6", "retime D D 0 0 2 4 6 A", "retime D D 1 0 1 A", "move D D A", "move D D 1/4", "trim D D", "stack D D", "lanes D D", "merge D D D", "merge D D D", "apart D D D", "pairs D D",
		"wrap D N width", "rows D rows width", "fast D signs", "fit D D signs", "same D D", "docs", "docs", "docs", "docs D"))
	l := []string{words[0]}
	for _, w := range words[1:] {
		l = append(l, m.said(w))
	}
	return strings.Join(m.spoilt(l), pick(m, " ", " ", "\t", "  ")) + pick(m, "", "", "", " ", " # \"", "\t#x")
}

// said tells a word of a kind, by chance.
func (m maker) said(kind string) string {
	switch kind {
	case "D":
		return m.name()
	case "N":
		return m.numbered()
	case "P":
		return m.place()
	case "A":
		return m.time()
	case "T":
		return m.word(m.bytes(6))
	case "file":
		format := m.format()
		return format + " " + m.word(m.file(format))
	case "format":
		return m.format()
	case "rate":
		return m.rate()
	case "stretch":
		return m.stretch()
	case "unit":
		return pick(m, "bytes", "signs", "pairs")
	case "kind":
		return pick(m, "bold", "italic", "under", "strike", "colour")
	case "value":
		return pick(m, "0", "0", "0", "16777215", "255", "-1")
	case "side":
		return pick(m, "0", "0", "1", "2")
	case "width":
		return pick(m, "1", "2", "3", "5", "9", "40", "200", "201")
	case "rows":
		return pick(m, "0", "1", "3", "9", "100", "101")
	case "signs":
		return pick(m, "1", "2", "1/2", "15", "0", "-1", "2000003", "1/2147483648")
	}
	return kind
}

// spoilt makes a line wrong, now and then.
func (m maker) spoilt(l []string) []string {
	if !m.one(25) {
		return l
	}
	at := m.dice.IntN(len(l))
	switch m.dice.IntN(4) {
	case 0:
		l = slices.Delete(l, at, at+1)
	case 1:
		l = slices.Insert(l, at, m.word(m.bytes(2)))
	case 2:
		l[at] = pick(m, "zz", "01", "", `"`, "#", "x\"", `"\q"`, "-0", "abcdefghi")
	default:
		l[at] += pick(m, "x", "0", `"`, "\x00", "\r")
	}
	return l
}

func (m maker) script(many int) string {
	var l []string
	for range many {
		l = append(l, m.line())
		name := m.name()
		switch m.dice.IntN(60) {
		case 0: // two bytes that melt
			l = append(l, "text "+name+` 0 signs 0 0 "\xc3"`, "text "+name+` 0 signs 1 1 "\xa9"`)
		case 1: // two cues that begin at the same time, of which the second one is cut short
			l = append(l, "lay "+name+" 0 0 1/8 x", "lay "+name+" 1 0 1/8 y", "split "+name+" 1 signs 1 1/16")
		}
	}
	return strings.Join(l, "\n") + pick(m, "", "\n")
}

// holdRun complains if a script is answered otherwise than by the words.
func holdRun(t *testing.T, s string, met map[string]int) {
	t.Helper()
	got, want := strings.Split(shell.Run(s), "\n"), strings.Split(runWords(s, met), "\n")
	lines := strings.Split(s, "\n")
	for n := range max(len(got), len(want)) {
		if n >= len(got) || n >= len(want) || got[n] != want[n] {
			t.Fatalf("%q\n line %d: %q\n%.900q\nwant\n%.900q", lines[:min(n+1, len(lines))], n, lines[min(n, len(lines)-1)], got[n:min(n+1, len(got))], want[n:min(n+1, len(want))])
		}
	}
}

// TestWordsByChance: P2201, P2204 of lines and bytes by chance.
func TestWordsByChance(t *testing.T) {
	m := newMaker(1)
	right, wrong := 0, 0
	for range 60000 {
		s := ""
		for range m.dice.IntN(9) {
			s += pick(m, " ", "\t", `"`, `"`, `\`, `\"`, `\\`, `\n`, `\t`, `\x41`, `\xc3`, `\xa9`, `\x`, `\xg0`, `\x0`, "a", "x", "n", "#", "\n", "\x00", "\xff", "\xc3", "é", "\U0001f600", m.word(m.bytes(3))+" ", m.word(m.bytes(3)))
		}
		want, ok := wordsWords(s)
		got, e := shell.Words(s)
		switch {
		case ok && (e != api.OK || !slices.Equal(got, want)), !ok && (e != api.ErrWord || len(got) > 0):
			t.Fatalf("Words(%q): %q, %v; want %q, %v", s, got, e, want, ok)
		case ok:
			right++
		default:
			wrong++
		}
		if got := shell.Quote([]byte(s)); got != quoteWords(s) {
			t.Fatalf("Quote(%q): %s; want %s", s, got, quoteWords(s))
		}
	}
	if right < 10000 || wrong < 10000 {
		t.Errorf("%d lines right, %d wrong: they try too little", right, wrong)
	}
}

// TestRunByChance: P2202 of scripts by chance, by the words.
func TestRunByChance(t *testing.T) {
	m, met := newMaker(2), map[string]int{}
	for range 3000 {
		holdRun(t, m.script(40+m.dice.IntN(60)), met)
	}
	for command, answers := range map[string]string{
		"new": "ok word", "read": "ok count head line time end back order rate word", "write": "ok none word", "convert": "ok none word", "keep": "ok none word",
		"lay": "ok arg back order time none word", "take": "ok arg none", "times": "ok arg back order none", "text": "ok arg within seam none", "style": "ok arg within span none",
		"shift": "ok arg back order none", "split": "ok arg back order within none", "join": "ok arg none", "place": "ok arg lane none", "name": "ok arg name none",
		"undo": "ok none", "redo": "ok none", "cues": "ok none", "cue": "ok arg none", "active": "ok none", "segments": "ok none",
		"retime": "ok order back cue none word", "move": "ok cue none", "trim": "ok none", "stack": "ok none", "lanes": "ok none", "merge": "ok cue none", "apart": "ok none", "pairs": "ok none",
		"wrap": "ok arg none", "rows": "ok cue none", "fast": "ok cue none", "fit": "ok cue none", "same": "ok none", "docs": "ok word",
	} {
		for answer := range strings.FieldsSeq(answers) {
			if met[command+" "+answer] < 5 {
				t.Errorf("%s: %s only %d times: the scripts try too little", command, answer, met[command+" "+answer])
			}
		}
	}
}

// manyCues is the front of a script that makes a document of so many cues, and one of one more.
func (m maker) manyCues(many int) string {
	var file strings.Builder
	for n := range many {
		fmt.Fprintf(&file, `{%d}{%d}%s\n`, n, n+4+m.dice.IntN(3), strings.Repeat("x", m.dice.IntN(40)))
	}
	return `read a frm "{1}{1}25\n` + file.String() + "\"\n" + `read b vtt "WEBVTT\n\n00:00.000 --> 00:05.000\nab"` + "\nmove b b 1/2\n"
}

// TestRunOfMany: P2202 of documents that have nearly as many cues as may be, and of answers that are nearly too long.
func TestRunOfMany(t *testing.T) {
	m, met := newMaker(3), map[string]int{}
	for range 60 {
		n := pick(m, 494, 497, 498, 499, 500, 500, 501)
		front := m.manyCues(n)
		var l []string
		for range 40 {
			l = append(l, pick(m,
				"lay a "+strconv.Itoa(n)+" 21 22 x", "lay a "+m.below(n)+" 21 22 x", "lay b 0 0 1/50 y", "split a "+m.below(n)+" signs "+m.below(2)+" "+m.below(500)+"/25",
				"split a 0 signs 0 1/25", "split b 0 signs 1 1", "times a "+m.below(n)+" 0 40", "take a 3", "take b 1", "join a "+m.below(9), "undo a", "undo a", "redo a",
				"merge a b c", "stack a c", "stack b c", "trim a c", "apart c b dd", "cues a", "segments a", "docs", m.line()))
		}
		holdRun(t, front+strings.Join(l, "\n"), met)
	}
	for _, x := range []string{"read ok", "read many", "lay many", "lay ok", "lay order", "split many", "split ok", "split arg", "merge ok", "merge many", "stack many", "stack ok", "segments ok", "redo ok", "undo ok"} {
		if met[x] < 3 {
			t.Errorf("%s only %d times: the scripts try too little", x, met[x])
		}
	}
}
