package conv_test

import (
	"errors"
	"math/big"
	"math/rand/v2"
	"regexp"
	"slices"
	"strconv"
	"strings"
	"testing"

	"surtitle/api"
	"surtitle/ass"
	"surtitle/conv"
	"surtitle/cue"
	"surtitle/frm"
	"surtitle/srt"
	"surtitle/vtt"
)

// What stands here says the chapter's words once more, by the four packages themselves, to hold the program against.

// ofWords: P1801: the error of a format; it takes rates that code.Check takes, of which there are some here.
func ofWords(format int, x api.Rate) api.Errno {
	switch {
	case format < 1 || format > 4:
		return api.ErrKind
	case format == api.FFrm && !slices.Contains(rates, x):
		return api.ErrRate
	}
	return api.OK
}

// rates are some that there are; noRates some that are none.
var (
	rates   = []api.Rate{{Num: 24, Den: 1}, {Num: 25, Den: 1}, {Num: 1, Den: 1}, {Num: 240, Den: 1}, {Num: 24000, Den: 1001}, {Num: 30000, Den: 1001, Drop: true}, {Num: 60000, Den: 1001}, {Num: 100, Den: 1}, {Num: 125, Den: 2}, {Num: 997, Den: 7}}
	noRates = []api.Rate{{}, {Num: 50, Den: 2}, {Num: 24, Den: 1, Drop: true}, {Num: 1, Den: 1001}, {Num: 240001, Den: 1001}, {Num: -1, Den: -1}}
)

// canWords: P1401, P1501, P1601, P1701.
func canWords(format int, x api.Rate) api.Can {
	return [...]api.Can{
		api.FSrt: {Dialect: api.DAngle, Grid: r(1, 1000)},
		api.FVtt: {Dialect: api.DVoice, Grid: r(1, 1000), Side: true, Name: true},
		api.FFrm: {Dialect: api.DPipe, Grid: r(int64(x.Den), int64(x.Num)), Blank: true},
		api.FAss: {Dialect: api.DBrace, Grid: r(1, 100), Lane: true, Side: true, Name: true, Blank: true},
	}[format]
}

func writeWords(format int, d api.Doc, x api.Rate) ([]byte, []api.Loss, error) {
	switch format {
	case api.FSrt:
		return srt.Write(d)
	case api.FVtt:
		return vtt.Write(d)
	case api.FFrm:
		return frm.Write(d, x)
	}
	return ass.Write(d)
}

func parseWords(format int, b []byte) (api.Doc, api.Fault) {
	switch format {
	case api.FSrt:
		return srt.Parse(b)
	case api.FVtt:
		return vtt.Parse(b)
	case api.FFrm:
		d, _, f := frm.Parse(b)
		return d, f
	}
	return ass.Parse(b)
}

// sameError tells whether two errors say and wrap the same.
func sameError(x, y error) bool {
	if x == nil || y == nil {
		return x == nil && y == nil
	}
	var a, b *cue.Wrong
	var p, q api.Errno
	errors.As(x, &p)
	errors.As(y, &q)
	if errors.As(x, &a) != errors.As(y, &b) || a != nil && *a != *b {
		return false
	}
	return x.Error() == y.Error() && p == q
}

// convertWords: P1803.
func convertWords(b []byte, from, to int, x api.Rate) ([]byte, []api.Loss, error) {
	for _, n := range []int{from, to} {
		if e := ofWords(n, x); e != api.OK {
			return nil, nil, e
		}
	}
	d, f := parseWords(from, b)
	if f.Err != api.OK {
		return nil, nil, errorAt{f}
	}
	return writeWords(to, d, x)
}

// errorAt is a fault as an error.
type errorAt struct{ f api.Fault }

func (x errorAt) Error() string {
	return x.f.Err.Error() + " at " + strconv.Itoa(x.f.Line) + ":" + strconv.Itoa(x.f.Col)
}

func (x errorAt) Unwrap() error { return x.f.Err }

// guesses: P1802, of a first line: which format it tells.
var guesses = map[int]*regexp.Regexp{
	api.FSrt: regexp.MustCompile(`^\x{feff}?[0-9]+$`),
	api.FVtt: regexp.MustCompile(`^\x{feff}?WEBVTT$`),
	api.FFrm: regexp.MustCompile(`^\x{feff}?\{`),
	api.FAss: regexp.MustCompile(`^\x{feff}?\[`),
}

// guessWords: P1802.
func guessWords(s string) (int, api.Errno) {
	line := s
	if at := strings.IndexAny(s, "\r\n"); at >= 0 {
		line = s[:at]
	}
	for n, form := range guesses {
		if form.MatchString(line) {
			return n, api.OK
		}
	}
	return 0, api.ErrHead
}

// maker makes things by chance, the same each time.
type maker struct{ dice *rand.Rand }

func newMaker(seed uint64) maker { return maker{rand.New(rand.NewPCG(seed, 18))} }

func (m maker) half() bool { return m.dice.IntN(2) == 0 }

// one tells whether it comes to that: once in so many.
func (m maker) one(in int) bool { return m.dice.IntN(in) == 0 }

// pick is one of some.
func pick[T any](m maker, l ...T) T { return l[m.dice.IntN(len(l))] }

// format is one of the four.
func (m maker) format() int { return 1 + m.dice.IntN(4) }

func (m maker) rate() api.Rate { return pick(m, rates...) }

// taste says what the cues of a document may have; plain ones are said by more formats.
type taste struct {
	signs       []string
	grid        int64 // times are whole parts of a second; 0: of any kind
	place, name bool
	spans       int
	lines       bool // spans go over whole texts alone
}

func (m maker) taste() taste {
	x := taste{signs: []string{"a", "bc", " ", "é", "中", "\U0001f600", "\xc3", "\xa9", "\xff", "x\ny", "&", ",", "&lt;"}}
	for _, l := range [][]string{{"\n", "\n\n"}, {"<", ">", "<b>", "</i>", "<v Ann>"}, {"|", "{", "}", "{y:b}", "{\\b1}"}, {"\\", "\\N"}, {"\x00", "\r", "\t"}, {"-->", "\ufeff", "1", "[Events]"}} {
		if m.one(4) {
			x.signs = append(x.signs, l...)
		}
	}
	x.grid = pick[int64](m, 0, 1, 1, 1, 25, 100, 1000)
	x.place, x.name = m.one(3), m.one(3)
	x.spans, x.lines = m.dice.IntN(4), m.half()
	return x
}

// text is a right one.
func (m maker) text(how taste) api.Text {
	var x api.Text
	for range m.dice.IntN(9) {
		x.S += pick(m, how.signs...)
	}
	n := len([]rune(x.S))
	for range m.dice.IntN(how.spans + 1) {
		from := m.dice.IntN(n + 1)
		y := api.Span{From: from, To: from + m.dice.IntN(n-from+1), Kind: 1 + m.dice.IntN(5)}
		if how.lines {
			y.From, y.To = 0, n
		}
		if y.Kind == api.KColour {
			y.Value = m.dice.IntN(0x1000000)
		}
		apart := func(z api.Span) bool {
			return y.To <= z.From || z.To <= y.From || y.From <= z.From && z.To <= y.To || z.From <= y.From && y.To <= z.To
		}
		if y.From < y.To && !slices.ContainsFunc(x.Spans, func(z api.Span) bool { return !apart(z) }) {
			x.Spans = append(x.Spans, y)
		}
	}
	return x
}

// time is one of few, so that many fall together.
func (m maker) time(how taste) api.Ratio {
	d := how.grid
	if d == 0 {
		d = pick[int64](m, 1, 2, 24, 100, 1000, 24000, 1<<20, 1<<20-1)
	}
	n := m.dice.Int64N(5*d + 1)
	if m.one(12) {
		n = 360000*d - m.dice.Int64N(3)
	}
	x := big.NewRat(n, d)
	return r(x.Num().Int64(), x.Denom().Int64())
}

// cue is a right one.
func (m maker) cue(how taste) api.Cue {
	x := api.Cue{Start: m.time(how), End: m.time(how), Text: m.text(how)}
	if how.place && m.half() {
		x.Lane, x.Side = pick(m, 0, 0, 1, 7), m.dice.IntN(2)
	}
	if how.name && m.half() {
		x.Name = pick(m, "", "Ann", " Bob ", "A,B", "\xc3", "<&>", "\ufeff", strings.Repeat("é", 32))
	}
	for x.Start == x.End {
		x.End = m.time(how)
	}
	if big.NewRat(x.Start.N, x.Start.D).Cmp(big.NewRat(x.End.N, x.End.D)) > 0 {
		x.Start, x.End = x.End, x.Start
	}
	return x
}

// doc is a right one of up to so many cues.
func (m maker) doc(many int) api.Doc {
	var l []api.Cue
	how := m.taste()
	for range m.dice.IntN(many + 1) {
		l = append(l, m.cue(how))
	}
	return doc(cue.Sort(l)...)
}

// file is one of a format; most times a right one.
func (m maker) file(format int) []byte {
	d := m.doc(5)
	if m.one(8) && len(d.Cues) > 0 {
		// a text that some of the formats can't keep
		i := m.dice.IntN(len(d.Cues))
		d.Cues[i].Text = api.Text{S: strings.Repeat(pick(m, "<", "{", "|", "\\", "x", "&"), pick(m, 1365, 1366, 4096))}
	}
	// Where this one can't, the file is empty.
	b, _, _ := writeWords(format, d, m.rate())
	if m.one(3) {
		for range 1 + m.dice.IntN(3) {
			at := m.dice.IntN(len(b) + 1)
			switch to := min(len(b), at+m.dice.IntN(4)); m.dice.IntN(3) {
			case 0:
				b = slices.Delete(b, at, to)
			case 1:
				b = slices.Insert(b, at, slices.Clone(b[at:to])...)
			default:
				b = slices.Insert(b, at, pick(m, []byte("\n\r\n0129 {}[]<>,:;x\xff\x00")...))
			}
		}
	}
	if m.one(8) {
		b = append([]byte("\ufeff"), b...)
	}
	return b
}

// TestFormatsWords: P1801 of right and wrong documents and of files, by the packages.
func TestFormatsWords(t *testing.T) {
	m := newMaker(1)
	for range 6000 {
		n, x := m.format(), m.rate()
		f, e := conv.Of(n, x)
		if e != api.OK || f.Can() != canWords(n, x) {
			t.Fatalf("Of(%d, %v): %v, %+v", n, x, e, f.Can())
		}
		d := m.doc(4)
		if len(d.Cues) > 0 && m.one(10) {
			d.Cues[m.dice.IntN(len(d.Cues))].Start = pick(m, whole(-1), r(2, 2), whole(360001), whole(6))
		}
		b, lost, err := f.Write(d)
		want, lost2, err2 := writeWords(n, d, x)
		if string(b) != string(want) || !slices.Equal(lost, lost2) || !sameError(err, err2) {
			t.Fatalf("Write(%+v) by %d: %q, %v, %v; want %q, %v, %v", d, n, b, lost, err, want, lost2, err2)
		}
		file := m.file(n)
		got, fault := f.Parse(file)
		if wanted, fault2 := parseWords(n, file); fault != fault2 || !sameDoc(got, wanted) {
			t.Fatalf("Parse(%q) by %d: %+v, %v; want %+v, %v", file, n, got, fault, wanted, fault2)
		}
	}
}

// TestOfWords: P1801 of all kinds and rates.
func TestOfWords(t *testing.T) {
	for n := -3; n < 9; n++ {
		for _, x := range slices.Concat(rates, noRates) {
			want := ofWords(n, x)
			if f, e := conv.Of(n, x); e != want || (f == nil) != (want != api.OK) {
				t.Errorf("Of(%d, %v): %v, %v; want %v", n, x, f, e, want)
			}
		}
	}
}

// TestGuessWords: P1802 of files and of all short lines of few parts, by the words.
func TestGuessWords(t *testing.T) {
	hold := func(s string) int {
		got, e := conv.Guess([]byte(s))
		if want, e2 := guessWords(s); got != want || e != e2 {
			t.Fatalf("Guess(%q): %d, %v; want %d, %v", s, got, e, want, e2)
		}
		return got
	}
	m, seen := newMaker(2), [5]int{}
	for range 5000 {
		seen[hold(string(m.file(m.format())))]++
	}
	for n, many := range seen {
		if many < 100 {
			t.Errorf("%d only %d times: the files try too little", n, many)
		}
	}
	l := []string{"\n", "\r", "\ufeff", "\xef\xbb", "0", "9", "/", ":", "WEBVTT", "WEB", "VTT", "[", "{", "x", " ", "\xff", "\u0661"}
	var all func(s string, more int)
	all = func(s string, more int) {
		hold(s)
		for _, part := range l {
			if more > 0 {
				all(s+part, more-1)
			}
		}
	}
	all("", 4)
}

// TestConvertWords: P1803 of files from each format to each, by the words.
func TestConvertWords(t *testing.T) {
	m, seen := newMaker(3), map[string]int{}
	for range 10000 {
		from, to, x := m.format(), m.format(), m.rate()
		if m.one(40) {
			from = pick(m, 0, 5, -1)
		}
		if m.one(40) {
			to = pick(m, 0, 5, -1)
		}
		if m.one(20) {
			x = pick(m, noRates...)
		}
		b := m.file(min(max(from, 1), 4))
		got, lost, err := conv.Convert(b, from, to, x)
		want, lost2, err2 := convertWords(b, from, to, x)
		if string(got) != string(want) || !slices.Equal(lost, lost2) || !sameError(err, err2) {
			t.Fatalf("Convert(%q, %d, %d, %v): %q, %v, %v; want %q, %v, %v", b, from, to, x, got, lost, err, want, lost2, err2)
		}
		var f *conv.Failed
		var w *cue.Wrong
		switch {
		case err == nil && len(lost) == 0:
			seen["whole"]++
		case err == nil:
			seen["lossy"]++
		case errors.As(err, &w):
			seen["unwritten"]++
		case errors.As(err, &f) && f.Fault.Err != api.OK:
			seen["fault"]++
		default:
			seen[err.Error()]++
		}
	}
	for _, s := range []string{"whole", "lossy", "unwritten", "fault", "kind", "rate"} {
		if seen[s] < 50 {
			t.Errorf("%s only %d times: the files try too little", s, seen[s])
		}
	}
}

// TestKeepWords: P1804 of right and wrong documents, by the words.
func TestKeepWords(t *testing.T) {
	m, said := newMaker(4), 0
	for range 10000 {
		d, one, two, x := m.doc(4), m.format(), m.format(), m.rate()
		if i := len(d.Cues); i > 0 && m.one(10) {
			d.Cues[m.dice.IntN(i)] = at(whole(1), pick(m, whole(1), r(4, 2), whole(2)), strings.Repeat(pick(m, "<", "{", "x"), 4096))
		}
		first, lost, err := cue.Keep(d, canWords(one, x))
		ok, err2 := conv.Says(d, one, x)
		if !sameError(err2, err) || ok != (err == nil && len(lost) == 0) {
			t.Fatalf("Says(%+v, %d, %v): %v, %v; want %v, %v", d, one, x, ok, err2, lost, err)
		}
		if ok {
			said++
		}
		var want api.Doc
		if err == nil {
			want, _, err = cue.Keep(first, canWords(two, x))
		}
		if got, err2 := conv.Both(d, one, two, x); !sameError(err2, err) || !sameDoc(got, want) {
			t.Fatalf("Both(%+v, %d, %d, %v): %+v, %v; want %+v, %v", d, one, two, x, got, err2, want, err)
		}
	}
	if said < 1000 || said > 9000 {
		t.Errorf("%d of 10000 are said whole: the documents try too little", said)
	}
}

// TestFarmWords: P1805 (T11): by any crew what is told one behind the other.
func TestFarmWords(t *testing.T) {
	m := newMaker(5)
	for range 150 {
		from, to, x := m.format(), m.format(), m.rate()
		var l, want [][]byte
		for range m.dice.IntN(30) {
			b := m.file(from)
			made, _, _ := convertWords(b, from, to, x)
			l, want = append(l, b), append(want, made)
		}
		for crew := 1; crew <= 8; crew++ {
			got, e := conv.Farm(crew, l, from, to, x)
			if e != api.OK || !slices.EqualFunc(got, want, slices.Equal) {
				t.Fatalf("Farm(%d, %q, %d, %d, %v): %q, %v; want %q", crew, l, from, to, x, got, e, want)
			}
		}
	}
}
