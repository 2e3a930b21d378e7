package srt_test

import (
	"errors"
	"slices"
	"strconv"
	"strings"
	"testing"

	"surtitle/api"
	"surtitle/cue"
	"surtitle/srt"
)

func r(n, d int64) api.Ratio { return api.Ratio{N: n, D: d} }

func whole(n int64) api.Ratio { return r(n, 1) }

// at is a cue of these times.
func at(from, to api.Ratio, s string, spans ...api.Span) api.Cue {
	return api.Cue{Start: from, End: to, Text: api.Text{S: s, Spans: spans}}
}

// low is a cue of whole seconds.
func low(from, to int64, s string, spans ...api.Span) api.Cue {
	return at(whole(from), whole(to), s, spans...)
}

// but is a cue of which something is another thing.
func but(x api.Cue, turn func(*api.Cue)) api.Cue {
	turn(&x)
	return x
}

func doc(l ...api.Cue) api.Doc { return api.Doc{Cues: l} }

// times is a document of the same cue, so many times.
func times(n int, x api.Cue) api.Doc { return doc(slices.Repeat([]api.Cue{x}, n)...) }

func sameCue(x, y api.Cue) bool {
	return x.Start == y.Start && x.End == y.End && x.Lane == y.Lane && x.Side == y.Side && x.Name == y.Name &&
		x.Text.S == y.Text.S && slices.Equal(x.Text.Spans, y.Text.Spans)
}

func sameDoc(x, y api.Doc) bool { return slices.EqualFunc(x.Cues, y.Cues, sameCue) }

// wrong is what an error should be; OK: none.
type wrong struct {
	cue int
	e   api.Errno
}

// is tells whether an error is that one.
func (f wrong) is(err error) bool {
	if f.e == api.OK {
		return err == nil
	}
	w, ok := err.(*cue.Wrong)
	return ok && w != nil && *w == cue.Wrong{Cue: f.cue, Err: f.e}
}

func bold(from, to int) api.Span   { return api.Span{From: from, To: to, Kind: api.KBold} }
func italic(from, to int) api.Span { return api.Span{From: from, To: to, Kind: api.KItalic} }
func colour(from, to, value int) api.Span {
	return api.Span{From: from, To: to, Kind: api.KColour, Value: value}
}

// file lays lines one behind another, each with its end.
func file(lines ...string) string {
	var b strings.Builder
	for _, s := range lines {
		b.WriteString(s + "\n")
	}
	return b.String()
}

// TestCan: P1401.
func TestCan(t *testing.T) {
	if can := srt.Can(); can != (api.Can{Dialect: api.DAngle, Grid: r(1, 1000)}) {
		t.Errorf("%+v", can)
	}
}

// TestKeep: P1401 and the example 4.
func TestKeep(t *testing.T) {
	all := but(at(r(1, 3), r(2, 3), "a\x00\n\n<b", bold(0, 1)), func(x *api.Cue) { x.Lane, x.Side, x.Name = 7, api.High, "Ann" })
	for n, x := range []struct {
		d, want api.Doc
		lost    []api.Loss
	}{
		{doc(), doc(), nil},
		{doc(low(1, 2, "Hi")), doc(low(1, 2, "Hi")), nil},
		{doc(low(1, 2, "\n<b")), doc(low(1, 2, "\uff1cb")), []api.Loss{{Kind: api.LSign, N: 1}, {Kind: api.LLine, N: 1}}},
		{doc(low(0, 1, ""), all), doc(low(0, 1, ""), at(r(333, 1000), r(667, 1000), "a \n\uff1cb", bold(0, 1))), []api.Loss{
			{Cue: 1, Kind: api.LTime, N: 1}, {Cue: 1, Kind: api.LLane, N: 1}, {Cue: 1, Kind: api.LSide, N: 1},
			{Cue: 1, Kind: api.LName, N: 1}, {Cue: 1, Kind: api.LSign, N: 2}, {Cue: 1, Kind: api.LLine, N: 1}}},
		{doc(low(0, 1, "|{\\}&")), doc(low(0, 1, "|{\\}&")), nil},
	} {
		got, lost, err := srt.Keep(x.d)
		if err != nil || !sameDoc(got, x.want) || !slices.Equal(lost, x.lost) {
			t.Errorf("%d: Keep: %+v, %v, %v; want %+v, %v", n, got, lost, err, x.want, x.lost)
		}
	}
}

// TestWrite: P1402 and the examples 1 and 4.
func TestWrite(t *testing.T) {
	for n, x := range []struct {
		d    api.Doc
		want string
		lost []api.Loss
	}{
		{doc(), "", nil},
		{doc(at(whole(1), r(5, 2), "Hi\nthere", italic(0, 2))), file("1", "00:00:01,000 --> 00:00:02,500", "<i>Hi</i>", "there", ""), nil},
		{doc(low(0, 1, "")), file("1", "00:00:00,000 --> 00:00:01,000", ""), nil},
		{doc(low(0, 1, "a"), low(0, 1, ""), low(3, 4, "b")), file("1", "00:00:00,000 --> 00:00:01,000", "a", "", "2", "00:00:00,000 --> 00:00:01,000", "", "3", "00:00:03,000 --> 00:00:04,000", "b", ""), nil},
		{doc(low(1, 2, "\n<b")), file("1", "00:00:01,000 --> 00:00:02,000", "\uff1cb", ""), []api.Loss{{Kind: api.LSign, N: 1}, {Kind: api.LLine, N: 1}}},
		{doc(low(1, 2, "\n\n", bold(0, 2))), file("1", "00:00:01,000 --> 00:00:02,000", ""), []api.Loss{{Kind: api.LLine, N: 2}}},
		// a line end that looks like something, bytes that are no signs, a blank line that is not empty
		{doc(low(1, 2, "a\nb\xc3\n \xff", bold(1, 3), colour(2, 3, 0xABCDEF))),
			file("1", "00:00:01,000 --> 00:00:02,000", "a<b>", "<font color=\"#abcdef\">b</font></b>\xc3", " \xff", ""), nil},
		// the ends of time
		{doc(at(r(359999_999, 1000), whole(360000), "x")), file("1", "99:59:59,999 --> 100:00:00,000", "x", ""), nil},
		{doc(at(r(1, 1<<20), r(1, 1<<19), "x")), file("1", "00:00:00,000 --> 00:00:00,001", "x", ""), []api.Loss{{Kind: api.LTime, N: 1}}},
		// cues that stand in another order once they are kept
		{doc(at(r(1, 10000), whole(9), "long"), at(r(1, 5000), whole(5), "short")), file("1", "00:00:00,000 --> 00:00:05,000", "short", "", "2", "00:00:00,000 --> 00:00:09,000", "long", ""),
			[]api.Loss{{Cue: 0, Kind: api.LTime, N: 1}, {Cue: 1, Kind: api.LTime, N: 1}}},
		{doc(but(low(0, 1, "a"), func(x *api.Cue) { x.Lane, x.Side, x.Name = 1, api.High, "Ann" })), file("1", "00:00:00,000 --> 00:00:01,000", "a", ""),
			[]api.Loss{{Kind: api.LLane, N: 1}, {Kind: api.LSide, N: 1}, {Kind: api.LName, N: 1}}},
		// what looks like a part of a file is a text like any other
		{doc(low(0, 1, "2\n00:00:01,000 --> 00:00:02,000")), file("1", "00:00:00,000 --> 00:00:01,000", "2", "00:00:01,000 --\uff1e 00:00:02,000", ""), []api.Loss{{Kind: api.LSign, N: 1}}},
	} {
		got, lost, err := srt.Write(x.d)
		if err != nil || string(got) != x.want || !slices.Equal(lost, x.lost) {
			t.Errorf("%d: Write: %q, %v, %v; want %q, %v", n, got, lost, err, x.want, x.lost)
		}
	}
}

// TestWriteNumbers: P1402: numbers go on to the last cue that may be.
func TestWriteNumbers(t *testing.T) {
	b, _, err := srt.Write(times(4096, low(0, 1, "")))
	l := strings.Split(string(b), "\n\n")
	if err != nil || len(l) != 4097 || l[4096] != "" {
		t.Fatal(len(l), err)
	}
	for n, s := range l[:4096] {
		if want := strconv.Itoa(n+1) + "\n00:00:00,000 --> 00:00:01,000"; s != want {
			t.Fatalf("%d: %q; want %q", n, s, want)
		}
	}
}

// wide is a document whose file would have so many bytes.
func wide(size int) api.Doc {
	const head, many = len("1000\n00:00:01,000 --> 00:00:02,000\n\n\n"), 2000
	// Numbers of fewer digits than 1000.
	size += 9*3 + 90*2 + 900
	each := size/many - head
	d := times(many-1, low(1, 2, strings.Repeat("x", each)))
	d.Cues = append(d.Cues, low(1, 3, strings.Repeat("y", size-(many-1)*(each+head)-head)))
	return d
}

// TestWriteLong: P1402: a file of as many bytes as may be, and of one more; there and back (P1404).
func TestWriteLong(t *testing.T) {
	d := wide(1 << 22)
	b, lost, err := srt.Write(d)
	if err != nil || len(b) != 1<<22 || len(lost) != 0 {
		t.Fatal(len(b), lost, err)
	}
	if back, f := srt.Parse(b); f != (api.Fault{}) || !sameDoc(back, d) {
		t.Error(len(back.Cues), f)
	}
	for _, d := range []api.Doc{
		wide(1<<22 + 1),
		// what is lost is told of no file
		times(4096, low(0, 1, strings.Repeat("x", 1000)+"<")),
	} {
		b, lost, err := srt.Write(d)
		if !(wrong{0, api.ErrLong}).is(err) || len(b) != 0 || len(lost) != 0 {
			t.Error(len(b), lost, err)
		}
	}
}

// TestNotRight: P1401, P1402: cue.Keep's errors are those of both calls, ahead of ErrLong.
func TestNotRight(t *testing.T) {
	for n, x := range []struct {
		d api.Doc
		f wrong
	}{
		{doc(low(1, 1, "")), wrong{0, api.ErrBack}},
		{doc(low(0, 1, ""), low(-1, 1, "")), wrong{1, api.ErrTime}},
		{doc(low(0, 1, ""), low(0, api.MaxTime+1, "")), wrong{1, api.ErrTime}},
		{doc(at(r(2, 4), whole(1), "")), wrong{0, api.ErrWide}},
		{doc(low(2, 3, ""), low(1, 5, "")), wrong{1, api.ErrOrder}},
		{doc(but(low(0, 1, ""), func(x *api.Cue) { x.Lane = 8 })), wrong{0, api.ErrLane}},
		{doc(but(low(0, 1, ""), func(x *api.Cue) { x.Name = "\n" })), wrong{0, api.ErrName}},
		{doc(low(0, 1, "a", bold(0, 2))), wrong{0, api.ErrSpan}},
		{doc(low(0, 1, strings.Repeat("x", 4097))), wrong{0, api.ErrLong}},
		{times(4097, low(0, 1, "")), wrong{0, api.ErrMany}},
		// look-alikes are longer
		{doc(low(0, 1, ""), low(0, 1, strings.Repeat("<", 1366))), wrong{1, api.ErrLong}},
		// ahead of a file that would be too long
		{doc(append(times(4000, low(0, 1, strings.Repeat("x", 1100))).Cues, low(1, 1, ""))...), wrong{4000, api.ErrBack}},
		{doc(append(times(4000, low(0, 1, strings.Repeat("x", 1100))).Cues, low(1, 2, strings.Repeat("<", 1366)))...), wrong{4000, api.ErrLong}},
	} {
		d, lost, err := srt.Keep(x.d)
		if !x.f.is(err) || len(d.Cues) != 0 || len(lost) != 0 {
			t.Errorf("%d: Keep: %+v, %v, %v; want %v", n, d, lost, err, x.f)
		}
		b, lost, err := srt.Write(x.d)
		if !x.f.is(err) || len(b) != 0 || len(lost) != 0 {
			t.Errorf("%d: Write: %q, %v, %v; want %v", n, b, lost, err, x.f)
		}
	}
	_, _, err := srt.Write(doc(low(0, 1, ""), low(1, 1, "")))
	if err == nil || err.Error() != "cue 1: back" || !errors.Is(err, api.ErrBack) {
		t.Error(err)
	}
}

const one = "1\n00:00:01,000 --> 00:00:02,000\n"

// TestParse: P1403 and the examples 1 and 3: files without faults.
func TestParse(t *testing.T) {
	a := low(1, 2, "a")
	for s, want := range map[string]api.Doc{
		"":                         doc(),
		"\n\r\n\r\r\n":             doc(),
		"\ufeff":                   doc(),
		"\ufeff\n\n":               doc(),
		one:                        doc(low(1, 2, "")),
		strings.TrimSpace(one):     doc(low(1, 2, "")),
		one + "a":                  doc(a),
		one + "a\n\n\n\n":          doc(a),
		"\n\r\r\n" + one + "a":     doc(a),
		"\ufeff" + one + "a":       doc(a),
		"\ufeff\n" + one + "a":     doc(a),
		one + "\ufeffa":            doc(low(1, 2, "\ufeffa")),
		one + " \n\t\na":           doc(low(1, 2, " \n\t\na")),
		one + "a\x00\n\xff\xfe\nb": doc(low(1, 2, "a\x00\n\xff\xfe\nb")),
		"1\n00:00:01,000 --> 00:00:02,500\n<i>Hi</i>\nthere":                         doc(at(whole(1), r(5, 2), "Hi\nthere", italic(0, 2))),
		"1\r00:00:01,000 --> 00:00:02,500\r<i>Hi</i>\rthere\r\r":                     doc(at(whole(1), r(5, 2), "Hi\nthere", italic(0, 2))),
		"1\r\n00:00:01,000 --> 00:00:02,500\r\n<i>Hi</i>\r\nthere\r\n\r\n":           doc(at(whole(1), r(5, 2), "Hi\nthere", italic(0, 2))),
		"1\n00:00:01,000 --> 00:00:02,000 X1:10\n\n":                                 doc(low(1, 2, "")),
		"1\n00:00:01,000 --> 00:00:02,000 \na":                                       doc(a),
		"1\n00:00:01,000 --> 00:00:02,000  --> \xff 00:00:00,000\na":                 doc(a),
		"1\n00:00:01,000 --> 00:00:02,000 --> 00:00:03,000\na":                       doc(a),
		"999999999\n00:00:01,000 --> 00:00:02,000\na":                                doc(a),
		"000000000\n00:00:01,000 --> 00:00:02,000\na":                                doc(a),
		"7\n00:00:01,000 --> 00:00:02,000\na\n\n7\n00:00:01,000 --> 00:00:02,000\na": doc(a, a),
		"1\n99:59:59,999 --> 100:00:00,000":                                          doc(at(r(359999_999, 1000), whole(360000), "")),
		// the same Start, a later End; a line of text that looks like the next block
		one + "a\n\n1\n00:00:01,000 --> 00:00:03,000": doc(a, low(1, 3, "")),
		one + "2\n00:00:00,000 --> 00:00:03,000":      doc(low(1, 2, "2\n00:00:00,000 --> 00:00:03,000")),
		// forms over lines, forms that are none, a line that is not empty in the file though its text is
		one + "<b>a\nb</b>c</i>":                      doc(low(1, 2, "a\nbc</i>", bold(0, 3))),
		one + "<font color=\"#0000FF\">a</font>{b1}&": doc(low(1, 2, "a{b1}&", colour(0, 1, 255))),
		one + "<b>\n</b>\nc":                          doc(low(1, 2, "\n\nc", bold(0, 1))),
	} {
		if d, f := srt.Parse([]byte(s)); f != (api.Fault{}) || !sameDoc(d, want) {
			t.Errorf("Parse(%q): %+v, %v; want %+v", s, d, f, want)
		}
	}
}

// TestFaults: P1403 and the example 2: each fault, its place, and the cues ahead of it.
func TestFaults(t *testing.T) {
	for _, x := range []struct {
		s    string
		e    api.Errno
		line int
		col  int
	}{
		{"x", api.ErrCount, 1, 1},
		{"\ufeffx", api.ErrCount, 1, 1},
		{"\ufeff\ufeff1", api.ErrCount, 1, 1},
		{"\n\ufeff", api.ErrCount, 2, 1},
		{" ", api.ErrCount, 1, 1},
		{"1 ", api.ErrCount, 1, 1},
		{"-1", api.ErrCount, 1, 1},
		{"1.", api.ErrCount, 1, 1},
		{"\uff11", api.ErrCount, 1, 1},
		{"1\xff", api.ErrCount, 1, 1},
		{"1/", api.ErrCount, 1, 1},
		{"1:", api.ErrCount, 1, 1},
		{"1234567890\nx", api.ErrCount, 1, 1},
		{"00:00:01,000 --> 00:00:02,000\na", api.ErrCount, 1, 1},
		{"\r\r\n\n x\n", api.ErrCount, 4, 1},
		{"1", api.ErrEnd, 2, 1},
		{"1\n", api.ErrEnd, 2, 1},
		{"1\r\n", api.ErrEnd, 2, 1},
		{"1\n\n", api.ErrEnd, 2, 1},
		{"1\n\n00:00:01,000 --> 00:00:02,000\na", api.ErrEnd, 2, 1},
		{"\n\n1\r\r", api.ErrEnd, 4, 1},
		{"\ufeff1", api.ErrEnd, 2, 1},
		{"1\nx", api.ErrLine, 2, 1},
		{"1\n00:00:01,000 -> 00:00:02,000", api.ErrLine, 2, 1},
		{"1\n00:00:01,000-->00:00:02,000", api.ErrLine, 2, 1},
		{"1\n00:00:01,000 -->\t00:00:02,000", api.ErrLine, 2, 1},
		{"1\n00:00:01,000 -->", api.ErrLine, 2, 1},
		{"1\n00:00:09,000 > 00:00:02,000\n\nx", api.ErrLine, 2, 1},
		{"1\n00:00:01,000 --> 0:00:02,000", api.ErrTime, 2, 18},
		{"1\n100:00:00,000 --> 0:00:02,000", api.ErrTime, 2, 19},
		{"1\n0:00:01,000 --> 00:00:02,000", api.ErrTime, 2, 1},
		{"1\n0:00:01,000 --> 0:00:02,000", api.ErrTime, 2, 1},
		{"1\n --> 00:00:02,000", api.ErrTime, 2, 1},
		{"1\n 00:00:01,000 --> 00:00:02,000", api.ErrTime, 2, 1},
		{"1\n00:00:01,000  --> 00:00:02,000", api.ErrTime, 2, 1},
		{"1\n00:00:01.000 --> 00:00:02,000", api.ErrTime, 2, 1},
		{"1\n00:00:01,000 -->  00:00:02,000", api.ErrTime, 2, 18},
		{"1\n00:00:01,000 --> ", api.ErrTime, 2, 18},
		{"1\n00:00:01,000 --> 00:00:02,000x", api.ErrTime, 2, 18},
		{"1\n00:00:01,000 --> 00:00:02,000\tX1:10", api.ErrTime, 2, 18},
		{"1\n00:00:01,000 --> 00:00:02.000", api.ErrTime, 2, 18},
		{"1\n00:00:01,000 --> 100:00:00,001", api.ErrTime, 2, 18},
		{"1\n100:00:00,001 --> 100:00:00,002", api.ErrTime, 2, 1},
		{"1\n00:60:00,000 --> 99:00:00,000", api.ErrTime, 2, 1},
		{"1\né --> 00:00:02,000", api.ErrTime, 2, 1},
		{"1\n00:00:02,000 --> 00:00:01,000", api.ErrBack, 2, 1},
		{"1\n00:00:02,000 --> 00:00:02,000", api.ErrBack, 2, 1},
		{"1\n00:00:02,000 --> 00:00:01,000\n" + strings.Repeat("x", 5000), api.ErrBack, 2, 1},
		{one + strings.Repeat("x", 4097), api.ErrLong, 3, 1},
		{one + "a\nb\n" + strings.Repeat("x", 4093), api.ErrLong, 3, 1},
		{one + strings.Repeat("x\n", 2048) + "x\n", api.ErrLong, 3, 1},
		{one + strings.Repeat("<b>x</b>y", 257), api.ErrMany, 3, 1},
		{one + "a\n" + strings.Repeat("<b>x</b>y\n", 257) + "\nx", api.ErrMany, 3, 1},
		{one + strings.Repeat("x", 4097) + "\n\nx", api.ErrLong, 3, 1},
	} {
		want := api.Fault{Err: x.e, Line: x.line, Col: x.col}
		if d, f := srt.Parse([]byte(x.s)); f != want || len(d.Cues) != 0 {
			t.Errorf("Parse(%q): %+v, %v; want %v", x.s, d, f, want)
		}
		// With a cue ahead of it that stands whole.
		ahead := "\n" + one + "a\n\n"
		want.Line += strings.Count(ahead, "\n")
		if strings.HasPrefix(x.s, "\ufeff") {
			want.Err, want.Line, want.Col = api.ErrCount, 6, 1
		}
		if d, f := srt.Parse([]byte(ahead + x.s)); f != want || !sameDoc(d, doc(low(1, 2, "a"))) {
			t.Errorf("Parse(%q): %+v, %v; want %v", ahead+x.s, d, f, want)
		}
	}
	for _, s := range []string{strings.Repeat("x", 4096), strings.Repeat("<b>x</b>y", 256)} {
		if d, f := srt.Parse([]byte(one + s)); f != (api.Fault{}) || len(d.Cues) != 1 {
			t.Error(len(d.Cues), f)
		}
	}
}

// TestOrder: P1403, P11: cues behind one another.
func TestOrder(t *testing.T) {
	const ahead = "1\n00:00:02,000 --> 00:00:04,000\na\n\n\n2\n"
	for s, want := range map[string]api.Errno{
		"00:00:02,000 --> 00:00:04,000":              api.OK,
		"00:00:02,000 --> 00:00:04,001":              api.OK,
		"00:00:02,001 --> 00:00:03,000":              api.OK,
		"00:00:02,000 --> 00:00:03,999":              api.ErrOrder,
		"00:00:01,999 --> 00:00:09,000":              api.ErrOrder,
		"00:00:01,000 --> 00:00:00,000":              api.ErrBack,
		"00:00:01,000 --> 00:00:01,000":              api.ErrBack,
		"00:00:01,000 --> x":                         api.ErrTime,
		"00:00:01,000 --> 00:00:01,500\n\nx":         api.ErrOrder,
		"00:00:02,000 --> 00:00:04,000 <\n\n\n\n\nx": api.ErrCount,
	} {
		d, f := srt.Parse([]byte(ahead + s))
		line := 7
		if want == api.ErrCount {
			line = 12
		}
		if f.Err != want || want != api.OK && f.Line != line || len(d.Cues) == 0 || !sameCue(d.Cues[0], low(2, 4, "a")) {
			t.Errorf("%q: %+v, %v; want %v", s, d, f, want)
		}
		if many := map[api.Errno]int{api.OK: 2, api.ErrCount: 2}[want]; len(d.Cues) != max(many, 1) {
			t.Errorf("%q: %+v", s, d)
		}
	}
}

// TestMany: P1403, P11: as many cues as may be, and one more; the other faults of its times come ahead.
func TestMany(t *testing.T) {
	b, _, err := srt.Write(times(4096, low(1, 2, "a")))
	if err != nil {
		t.Fatal(err)
	}
	for s, want := range map[string]api.Fault{
		"":                                       {},
		"4097\n00:00:01,000 --> 00:00:02,000\na": {Err: api.ErrMany, Line: 16386, Col: 1},
		"4097\n00:00:01,000 --> 00:00:02,000\n" + strings.Repeat("x", 5000): {Err: api.ErrMany, Line: 16386, Col: 1},
		"4097\n00:00:01,000 --> 00:00:01,500\na":                            {Err: api.ErrOrder, Line: 16386, Col: 1},
		"4097\n00:00:01,000 --> 00:00:01,000\na":                            {Err: api.ErrBack, Line: 16386, Col: 1},
		"4097\n00:00:01,000 --> 0\na":                                       {Err: api.ErrTime, Line: 16386, Col: 18},
		"4097\n00:00:01,000\na":                                             {Err: api.ErrLine, Line: 16386, Col: 1},
		"4097":                                                              {Err: api.ErrEnd, Line: 16386, Col: 1},
		"x":                                                                 {Err: api.ErrCount, Line: 16385, Col: 1},
	} {
		if d, f := srt.Parse([]byte(string(b) + s)); f != want || len(d.Cues) != 4096 {
			t.Errorf("%.60q: %d, %v; want %v", s, len(d.Cues), f, want)
		}
	}
}
