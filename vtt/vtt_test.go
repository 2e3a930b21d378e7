package vtt_test

import (
	"errors"
	"slices"
	"strings"
	"testing"

	"surtitle/api"
	"surtitle/cue"
	"surtitle/vtt"
)

func r(n, d int64) api.Ratio { return api.Ratio{N: n, D: d} }

func whole(n int64) api.Ratio { return r(n, 1) }

// at is a cue of these times.
func at(from, to api.Ratio, s string, spans ...api.Span) api.Cue {
	return api.Cue{Start: from, End: to, Text: api.Text{S: s, Spans: spans}}
}

// low is a cue of whole seconds.
func low(from, to int64, s string, spans ...api.Span) api.Cue {
	return at(whole(from), whole(to), s, spans...)
}

// but is a cue of which something is another thing.
func but(x api.Cue, turn func(*api.Cue)) api.Cue {
	turn(&x)
	return x
}

// top is a cue on the other side.
func top(x api.Cue) api.Cue { return but(x, func(x *api.Cue) { x.Side = api.High }) }

// by is a cue of a name.
func by(name string, x api.Cue) api.Cue { return but(x, func(x *api.Cue) { x.Name = name }) }

func doc(l ...api.Cue) api.Doc { return api.Doc{Cues: l} }

// times is a document of the same cue, so many times.
func times(n int, x api.Cue) api.Doc { return doc(slices.Repeat([]api.Cue{x}, n)...) }

func sameCue(x, y api.Cue) bool {
	return x.Start == y.Start && x.End == y.End && x.Lane == y.Lane && x.Side == y.Side && x.Name == y.Name &&
		x.Text.S == y.Text.S && slices.Equal(x.Text.Spans, y.Text.Spans)
}

func sameDoc(x, y api.Doc) bool { return slices.EqualFunc(x.Cues, y.Cues, sameCue) }

// wrong is what an error should be; OK: none.
type wrong struct {
	cue int
	e   api.Errno
}

// is tells whether an error is that one.
func (f wrong) is(err error) bool {
	if f.e == api.OK {
		return err == nil
	}
	w, ok := err.(*cue.Wrong)
	return ok && w != nil && *w == cue.Wrong{Cue: f.cue, Err: f.e}
}

func bold(from, to int) api.Span   { return api.Span{From: from, To: to, Kind: api.KBold} }
func strike(from, to int) api.Span { return api.Span{From: from, To: to, Kind: api.KStrike} }
func colour(from, to, value int) api.Span {
	return api.Span{From: from, To: to, Kind: api.KColour, Value: value}
}

// file lays lines one behind another, each with its end, behind a head.
func file(lines ...string) string {
	return strings.Join(append([]string{"WEBVTT"}, lines...), "\n") + "\n"
}

// TestCan: P1501.
func TestCan(t *testing.T) {
	if can := vtt.Can(); can != (api.Can{Dialect: api.DVoice, Grid: r(1, 1000), Side: true, Name: true}) {
		t.Errorf("%+v", can)
	}
}

// TestKeep: P1501.
func TestKeep(t *testing.T) {
	all := but(at(r(1, 3), r(2, 3), "a\x00\n\n<b", bold(0, 1), strike(0, 3)), func(x *api.Cue) { x.Lane, x.Side, x.Name = 7, api.High, "A, <B>" })
	for n, x := range []struct {
		d, want api.Doc
		lost    []api.Loss
	}{
		{doc(), doc(), nil},
		{doc(low(1, 2, "Hi")), doc(low(1, 2, "Hi")), nil},
		{doc(top(by("&", low(1, 2, "<&>")))), doc(top(by("&", low(1, 2, "<&>")))), nil},
		{doc(low(0, 1, ""), all), doc(low(0, 1, ""), top(by("A, <B>", at(r(333, 1000), r(667, 1000), "a \n<b", bold(0, 1))))), []api.Loss{
			{Cue: 1, Kind: api.LTime, N: 1}, {Cue: 1, Kind: api.LLane, N: 1},
			{Cue: 1, Kind: api.LSign, N: 1}, {Cue: 1, Kind: api.LLine, N: 1}, {Cue: 1, Kind: api.LStyle, N: 3}}},
		{doc(low(0, 1, "|{\\}&<>")), doc(low(0, 1, "|{\\}&<>")), nil},
		{doc(low(0, 1, "\na\n")), doc(low(0, 1, "a")), []api.Loss{{Kind: api.LLine, N: 2}}},
	} {
		got, lost, err := vtt.Keep(x.d)
		if err != nil || !sameDoc(got, x.want) || !slices.Equal(lost, x.lost) {
			t.Errorf("%d: Keep: %+v, %v, %v; want %+v, %v", n, got, lost, err, x.want, x.lost)
		}
	}
}

// TestWrite: P1502 and the example 1.
func TestWrite(t *testing.T) {
	const zero = "00:00:00.000 --> 00:00:01.000"
	for n, x := range []struct {
		d    api.Doc
		want string
		lost []api.Loss
	}{
		{doc(), "WEBVTT\n", nil},
		{doc(top(by("Ann", at(whole(1), r(5, 2), "Hi & bye")))), file("", "00:00:01.000 --> 00:00:02.500 line:0", "<v Ann>Hi &amp; bye"), nil},
		{doc(low(0, 1, "")), file("", zero), nil},
		{doc(top(low(0, 1, ""))), file("", zero+" line:0"), nil},
		{doc(by("Ann", low(0, 1, ""))), file("", zero, "<v Ann>"), nil},
		{doc(by("<&>", low(0, 1, "a\nb"))), file("", zero, "<v &lt;&amp;&gt;>a", "b"), nil},
		{doc(low(0, 1, "a"), low(0, 1, ""), top(low(3, 4, "b"))), file("", zero, "a", "", zero, "", "00:00:03.000 --> 00:00:04.000 line:0", "b"), nil},
		{doc(low(0, 1, "\n<b")), file("", zero, "&lt;b"), []api.Loss{{Kind: api.LLine, N: 1}}},
		{doc(low(0, 1, "\n\n", bold(0, 2))), file("", zero), []api.Loss{{Kind: api.LLine, N: 2}}},
		{doc(low(0, 1, "ab", strike(0, 1))), file("", zero, "ab"), []api.Loss{{Kind: api.LStyle, N: 1}}},
		// a line end that looks like something, bytes that are no signs, a blank line that is not empty
		{doc(low(0, 1, "a\nb\xc3\n \xff", bold(1, 3), colour(2, 3, 0xABCDEF))),
			file("", zero, "a<b>", "<c.abcdef>b</c></b>\xc3", " \xff"), nil},
		// the ends of time
		{doc(at(r(359999_999, 1000), whole(360000), "x")), file("", "99:59:59.999 --> 100:00:00.000", "x"), nil},
		{doc(at(r(1, 1<<20), r(1, 1<<19), "x")), file("", "00:00:00.000 --> 00:00:00.001", "x"), []api.Loss{{Kind: api.LTime, N: 1}}},
		// cues that stand in another order once they are kept
		{doc(at(r(1, 10000), whole(9), "long"), at(r(1, 5000), whole(5), "short")), file("", "00:00:00.000 --> 00:00:05.000", "short", "", "00:00:00.000 --> 00:00:09.000", "long"),
			[]api.Loss{{Cue: 0, Kind: api.LTime, N: 1}, {Cue: 1, Kind: api.LTime, N: 1}}},
		{doc(but(low(0, 1, "a"), func(x *api.Cue) { x.Lane = 1 })), file("", zero, "a"), []api.Loss{{Kind: api.LLane, N: 1}}},
		// what looks like a part of a file is a text like any other
		{doc(low(0, 1, "NOTE\n00:01.000 --> 00:02.000")), file("", zero, "NOTE", "00:01.000 --&gt; 00:02.000"), nil},
		{doc(low(0, 1, "<v Ann>&lt;")), file("", zero, "&lt;v Ann&gt;&amp;lt;"), nil},
	} {
		got, lost, err := vtt.Write(x.d)
		if err != nil || string(got) != x.want || !slices.Equal(lost, x.lost) {
			t.Errorf("%d: Write: %q, %v, %v; want %q, %v", n, got, lost, err, x.want, x.lost)
		}
	}
}

// wide is a document whose file would have so many bytes.
func wide(size int) api.Doc {
	const top, head, many = len("WEBVTT\n"), len("\n00:00:01.000 --> 00:00:02.000\n\n"), 2000
	size -= top
	each := size/many - head
	d := times(many-1, low(1, 2, strings.Repeat("x", each)))
	d.Cues = append(d.Cues, low(1, 3, strings.Repeat("y", size-(many-1)*(each+head)-head)))
	return d
}

// TestWriteLong: P1502: a file of as many bytes as may be, and of one more; there and back (P1504).
func TestWriteLong(t *testing.T) {
	d := wide(1 << 22)
	b, lost, err := vtt.Write(d)
	if err != nil || len(b) != 1<<22 || len(lost) != 0 {
		t.Fatal(len(b), lost, err)
	}
	if back, f := vtt.Parse(b); f != (api.Fault{}) || !sameDoc(back, d) {
		t.Error(len(back.Cues), f)
	}
	for _, d := range []api.Doc{
		wide(1<<22 + 1),
		// what is lost is told of no file
		times(4096, low(0, 1, strings.Repeat("x", 1000)+"\x00")),
		// words are longer than the signs for which they stand
		times(4096, low(0, 1, strings.Repeat("&", 300))),
	} {
		b, lost, err := vtt.Write(d)
		if !(wrong{0, api.ErrLong}).is(err) || len(b) != 0 || len(lost) != 0 {
			t.Error(len(b), lost, err)
		}
	}
}

// TestNotRight: P1501, P1502: cue.Keep's errors are those of both calls, ahead of ErrLong.
func TestNotRight(t *testing.T) {
	long := times(4000, low(0, 1, strings.Repeat("x", 1100))).Cues
	for n, x := range []struct {
		d api.Doc
		f wrong
	}{
		{doc(low(1, 1, "")), wrong{0, api.ErrBack}},
		{doc(low(0, 1, ""), low(-1, 1, "")), wrong{1, api.ErrTime}},
		{doc(low(0, 1, ""), low(0, api.MaxTime+1, "")), wrong{1, api.ErrTime}},
		{doc(at(r(2, 4), whole(1), "")), wrong{0, api.ErrWide}},
		{doc(low(2, 3, ""), low(1, 5, "")), wrong{1, api.ErrOrder}},
		{doc(but(low(0, 1, ""), func(x *api.Cue) { x.Lane = 8 })), wrong{0, api.ErrLane}},
		{doc(but(low(0, 1, ""), func(x *api.Cue) { x.Side = 2 })), wrong{0, api.ErrLane}},
		{doc(by("\n", low(0, 1, ""))), wrong{0, api.ErrName}},
		{doc(by(strings.Repeat("x", 65), low(0, 1, ""))), wrong{0, api.ErrName}},
		{doc(low(0, 1, "a", bold(0, 2))), wrong{0, api.ErrSpan}},
		{doc(low(0, 1, strings.Repeat("x", 4097))), wrong{0, api.ErrLong}},
		{times(4097, low(0, 1, "")), wrong{0, api.ErrMany}},
		// ahead of a file that would be too long
		{doc(append(long, low(1, 1, ""))...), wrong{4000, api.ErrBack}},
		{doc(append(long, low(1, 2, strings.Repeat("x", 4097)))...), wrong{4000, api.ErrLong}},
	} {
		d, lost, err := vtt.Keep(x.d)
		if !x.f.is(err) || len(d.Cues) != 0 || len(lost) != 0 {
			t.Errorf("%d: Keep: %+v, %v, %v; want %v", n, d, lost, err, x.f)
		}
		b, lost, err := vtt.Write(x.d)
		if !x.f.is(err) || len(b) != 0 || len(lost) != 0 {
			t.Errorf("%d: Write: %q, %v, %v; want %v", n, b, lost, err, x.f)
		}
	}
	_, _, err := vtt.Write(doc(low(0, 1, ""), low(1, 1, "")))
	if err == nil || err.Error() != "cue 1: back" || !errors.Is(err, api.ErrBack) {
		t.Error(err)
	}
}

const (
	head = "WEBVTT\n\n"
	one  = "00:01.000 --> 00:02.000\n"
)

// TestParse: P1503 and the example 1: files without faults.
func TestParse(t *testing.T) {
	a := low(1, 2, "a")
	for s, want := range map[string]api.Doc{
		"WEBVTT":                                 doc(),
		"WEBVTT\n":                               doc(),
		"WEBVTT\r\n":                             doc(),
		"WEBVTT\n\n\r\n\r\r\n":                   doc(),
		"\ufeffWEBVTT":                           doc(),
		"\ufeffWEBVTT\n\n" + one:                 doc(low(1, 2, "")),
		head + one:                               doc(low(1, 2, "")),
		head + strings.TrimSpace(one):            doc(low(1, 2, "")),
		head + one + "a":                         doc(a),
		head + one + "a\n\n\n\n":                 doc(a),
		head + "\n\r\r\n" + one + "a":            doc(a),
		head + one + "\ufeffa":                   doc(low(1, 2, "\ufeffa")),
		head + one + " \n\t\na":                  doc(low(1, 2, " \n\t\na")),
		head + one + "a\x00\n\xff\xfe\nb":        doc(low(1, 2, "a\x00\n\xff\xfe\nb")),
		head + "00:00:01.000 --> 00:02.000\na":   doc(a),
		head + "00:01.000 --> 00:00:02.000\na":   doc(a),
		head + "00:01.000 --> 00:02.000 line:0":  doc(top(low(1, 2, ""))),
		head + "99:59:59.999 --> 100:00:00.000":  doc(at(r(359999_999, 1000), whole(360000), "")),
		head + "59:59.999 --> 01:00:00.000":      doc(at(r(3599_999, 1000), whole(3600), "")),
		"WEBVTT\r\r" + "00:01.000 --> 00:02.000": doc(low(1, 2, "")),
		// the example 1, with all line ends
		head + "00:01.000 --> 00:02.500 line:0\n<v Ann>Hi &amp; bye":                   doc(top(by("Ann", at(whole(1), r(5, 2), "Hi & bye")))),
		"WEBVTT\r\r00:01.000 --> 00:02.500 line:0\r<v Ann>Hi &amp; bye\r":              doc(top(by("Ann", at(whole(1), r(5, 2), "Hi & bye")))),
		"WEBVTT\r\n\r\n00:01.000 --> 00:02.500 line:0\r\n<v Ann>Hi\r\n&amp; bye\r\n\n": doc(top(by("Ann", at(whole(1), r(5, 2), "Hi\n& bye")))),
		// ids
		head + "7\n" + one + "a":                   doc(a),
		head + "an id, with -- > and ->\n" + one:   doc(low(1, 2, "")),
		head + "\xff é <b>\n" + one + "a":          doc(a),
		head + " \n" + one + "a":                   doc(a),
		head + "NOTEs\n" + one + "a":               doc(a),
		head + "NOTE\tx\n" + one + "a":             doc(a),
		head + " NOTE\n" + one + "a":               doc(a),
		head + "note\n" + one + "a":                doc(a),
		head + "WEBVTT\n" + one + "a":              doc(a),
		head + "\ufeff\n" + one + "a":              doc(a),
		head + "\ufeffNOTE x\n" + one + "a":        doc(a),
		head + "1\n" + one + "a\n\n1\n" + one:      doc(a, low(1, 2, "")),
		head + one + "a\n\n\n" + "NOTE\n\n" + one:  doc(a, low(1, 2, "")),
		head + "7\n" + one + "00:00.000 --> \n7\n": doc(low(1, 2, "00:00.000 --> \n7")),
		// notes
		head + "NOTE":                                          doc(),
		head + "NOTE \n":                                       doc(),
		head + "NOTE\n" + one + "a":                            doc(),
		head + "NOTE --> x\ny --> z\n\n" + one + "a":           doc(a),
		head + "NOTE x\n\n\nNOTE\r\rNOTE\r\n\r\n" + one + "a":  doc(a),
		head + "NOTE\nx\n" + strings.Repeat("y\n", 5000) + "z": doc(),
		head + "NOTE " + strings.Repeat("y", 5000):             doc(),
		head + one + "NOTE\nNOTE x":                            doc(low(1, 2, "NOTE\nNOTE x")),
		// the same Start, a later End
		head + one + "a\n\n00:01.000 --> 00:03.000": doc(a, low(1, 3, "")),
		// forms over lines, forms that are none, a line that is not empty in the file though its text is
		head + one + "<b>a\nb</b>c</i>":                     doc(low(1, 2, "a\nbc</i>", bold(0, 3))),
		head + one + "<c.0000FF>a</c>{b1}&<s>":              doc(low(1, 2, "a{b1}&<s>", colour(0, 1, 255))),
		head + one + "<b>\n</b>\nc":                         doc(low(1, 2, "\n\nc", bold(0, 1))),
		head + one + "&lt;&gt;&amp;&nbsp;&lrm;&rlm;&x;":     doc(low(1, 2, "<>&\u00a0\u200e\u200f&x;")),
		head + one + "<v Ann>":                              doc(by("Ann", low(1, 2, ""))),
		head + one + "<v A &lt; B>\na":                      doc(by("A < B", low(1, 2, "\na"))),
		head + one + "<v >a":                                doc(low(1, 2, "<v >a")),
		head + one + "<v A\nB>a":                            doc(low(1, 2, "<v A\nB>a")),
		head + one + "a\n<v Ann>b":                          doc(low(1, 2, "a\n<v Ann>b")),
		head + one + "<v " + strings.Repeat("n", 64) + ">a": doc(by(strings.Repeat("n", 64), a)),
		head + one + "<v " + strings.Repeat("n", 65) + ">a": doc(low(1, 2, "<v "+strings.Repeat("n", 65)+">a")),
	} {
		if d, f := vtt.Parse([]byte(s)); f != (api.Fault{}) || !sameDoc(d, want) {
			t.Errorf("Parse(%q): %+v, %v; want %+v", s, d, f, want)
		}
	}
}

// TestHead: P1503, 1 and 2, and the example 2.
func TestHead(t *testing.T) {
	for s, line := range map[string]int{
		"":                              1,
		"\n":                            1,
		"\ufeff":                        1,
		"\ufeff\n":                      1,
		"\ufeff\ufeffWEBVTT":            1,
		"\nWEBVTT\n\n":                  1,
		"WEBVTT x":                      1,
		"WEBVTT ":                       1,
		" WEBVTT":                       1,
		"webvtt":                        1,
		"WEBVT":                         1,
		"WEBVTT\t\n\n" + one:            1,
		"\xef\xbbWEBVTT":                1,
		"x\nx":                          1,
		one:                             1,
		"WEBVTT\nx":                     2,
		"WEBVTT\n ":                     2,
		"WEBVTT\n\ufeff":                2,
		"WEBVTT\nNOTE\n\n":              2,
		"WEBVTT\r\nx\n\n" + one:         2,
		"WEBVTT\r" + one:                2,
		"WEBVTT\nX: y\n\n" + one + "a":  2,
		"\ufeffWEBVTT\nx":               2,
		"WEBVTT\n\x00":                  2,
		"WEBVTT\nx --> y\n\n" + one:     2,
		"WEBVTT\n" + "id\n" + one + "a": 2,
	} {
		if d, f := vtt.Parse([]byte(s)); f != (api.Fault{Err: api.ErrHead, Line: line, Col: 1}) || len(d.Cues) != 0 {
			t.Errorf("Parse(%q): %+v, %v; want line %d", s, d, f, line)
		}
	}
}

// TestFaults: P1503 and the examples 2 and 3: each fault of a block, its place, and the cues ahead of it.
func TestFaults(t *testing.T) {
	for _, x := range []struct {
		s    string
		e    api.Errno
		line int
		col  int
	}{
		{"7", api.ErrEnd, 2, 1},
		{"7\n", api.ErrEnd, 2, 1},
		{"7\r\n\r\n", api.ErrEnd, 2, 1},
		{"7\n\n" + one + "a", api.ErrEnd, 2, 1},
		{"\n\n7\r\r", api.ErrEnd, 4, 1},
		{" ", api.ErrEnd, 2, 1},
		{"NOTEs", api.ErrEnd, 2, 1},
		{"NOTE\t\n", api.ErrEnd, 2, 1},
		{"\ufeffNOTE", api.ErrEnd, 2, 1},
		{"WEBVTT", api.ErrEnd, 2, 1},
		{"NOTE\nx\n\n7\n\n", api.ErrEnd, 5, 1},
		{"7\nx", api.ErrLine, 2, 1},
		{"7\n8\n" + one, api.ErrLine, 2, 1},
		{"7\nNOTE\n" + one, api.ErrLine, 2, 1},
		{"7\n00:01.000 -> 00:02.000", api.ErrLine, 2, 1},
		{"-->", api.ErrLine, 1, 1},
		{"7\n-->", api.ErrLine, 2, 1},
		{"00:01.000-->00:02.000", api.ErrLine, 1, 1},
		{"00:01.000 -->\t00:02.000", api.ErrLine, 1, 1},
		{"00:01.000 -->", api.ErrLine, 1, 1},
		{"id-->", api.ErrLine, 1, 1},
		{"id-->\n" + one, api.ErrLine, 1, 1},
		{"NOTE-->\n" + one, api.ErrLine, 1, 1},
		{"00:01.0 --> 00:02.000", api.ErrTime, 1, 1},
		{"00:01.000 --> 0:2", api.ErrTime, 1, 15},
		{"7\n00:01.000 --> 0:2", api.ErrTime, 2, 15},
		{"00:00:01.000 --> 0:2", api.ErrTime, 1, 18},
		{"100:00:00.000 --> 0:2", api.ErrTime, 1, 19},
		{"00:01.0 --> 0:2", api.ErrTime, 1, 1},
		{"00:01.0 --> 00:02.000 x", api.ErrTime, 1, 1},
		{"00:01.000 --> 0:2 x", api.ErrTime, 1, 15},
		{" --> 00:02.000", api.ErrTime, 1, 1},
		{" 00:01.000 --> 00:02.000", api.ErrTime, 1, 1},
		{"00:01.000  --> 00:02.000", api.ErrTime, 1, 1},
		{"00:01,000 --> 00:02.000", api.ErrTime, 1, 1},
		{"\ufeff00:01.000 --> 00:02.000", api.ErrTime, 1, 1},
		{"id --> 00:02.000\n" + one, api.ErrTime, 1, 1},
		{"é\xff --> 00:02.000", api.ErrTime, 1, 1},
		{"00:01.000 -->  00:02.000", api.ErrTime, 1, 15},
		{"00:01.000 --> ", api.ErrTime, 1, 15},
		{"00:01.000 --> 00:02.000x", api.ErrTime, 1, 15},
		{"00:01.000 --> 00:02.000\tline:0", api.ErrTime, 1, 15},
		{"00:01.000 --> line:0", api.ErrTime, 1, 15},
		{"00:01.000 --> 00:02,000", api.ErrTime, 1, 15},
		{"00:01.000 --> 100:00:00.001", api.ErrTime, 1, 15},
		{"100:00:00.001 --> 100:00:00.002", api.ErrTime, 1, 1},
		{"60:00.000 --> 99:00:00.000", api.ErrTime, 1, 1},
		{"00:01.000 --> 00:02.000 x", api.ErrLine, 1, 24},
		{"00:01.000 --> 00:02.000 ", api.ErrLine, 1, 24},
		{"00:01.000 --> 00:02.000  line:0", api.ErrLine, 1, 24},
		{"00:01.000 --> 00:02.000 line:0 ", api.ErrLine, 1, 24},
		{"00:01.000 --> 00:02.000 line:00", api.ErrLine, 1, 24},
		{"00:01.000 --> 00:02.000 line:1", api.ErrLine, 1, 24},
		{"00:01.000 --> 00:02.000 line:", api.ErrLine, 1, 24},
		{"00:01.000 --> 00:02.000 Line:0", api.ErrLine, 1, 24},
		{"00:01.000 --> 00:02.000 line:0 x", api.ErrLine, 1, 24},
		{"00:01.000 --> 00:02.000 --> 00:03.000", api.ErrLine, 1, 24},
		{"00:00:01.000 --> 00:00:02.000 é\xff", api.ErrLine, 1, 30},
		{"00:02.000 --> 00:01.000 x", api.ErrLine, 1, 24},
		{"00:02.000 --> 00:01.000", api.ErrBack, 1, 1},
		{"00:02.000 --> 00:02.000 line:0", api.ErrBack, 1, 1},
		{"id\n00:02.000 --> 00:01.000\n" + strings.Repeat("x", 5000), api.ErrBack, 2, 1},
		{one + strings.Repeat("x", 4097), api.ErrLong, 2, 1},
		{"id\n" + one + strings.Repeat("x", 4097), api.ErrLong, 3, 1},
		{one + "a\nb\n" + strings.Repeat("x", 4093), api.ErrLong, 2, 1},
		{one + strings.Repeat("x\n", 2048) + "x\n", api.ErrLong, 2, 1},
		{one + strings.Repeat("<b>x</b>y", 257), api.ErrMany, 2, 1},
		{one + "a\n" + strings.Repeat("<b>x</b>y\n", 257) + "\nx", api.ErrMany, 2, 1},
		{one + strings.Repeat("x", 4097) + "\n\nx", api.ErrLong, 2, 1},
		{one + strings.Repeat("x", 4097) + "\n\n" + one, api.ErrLong, 2, 1},
	} {
		want := api.Fault{Err: x.e, Line: x.line + 2, Col: x.col}
		if d, f := vtt.Parse([]byte(head + x.s)); f != want || len(d.Cues) != 0 {
			t.Errorf("Parse(%q): %+v, %v; want %v", x.s, d, f, want)
		}
		// With a cue ahead of it that stands whole.
		ahead := head + one + "a\n\n"
		want.Line += 3
		if d, f := vtt.Parse([]byte(ahead + x.s)); f != want || !sameDoc(d, doc(low(1, 2, "a"))) {
			t.Errorf("Parse(%q): %+v, %v; want %v", ahead+x.s, d, f, want)
		}
	}
	for _, s := range []string{strings.Repeat("x", 4096), strings.Repeat("<b>x</b>y", 256), "<v n>" + strings.Repeat("&amp;", 4096)} {
		if d, f := vtt.Parse([]byte(head + one + s)); f != (api.Fault{}) || len(d.Cues) != 1 {
			t.Error(len(d.Cues), f)
		}
	}
}

// TestOrder: P1503, P11 and the example 4: cues behind one another.
func TestOrder(t *testing.T) {
	const ahead = "WEBVTT\n\n00:02.000 --> 00:04.000\na\n\n\n"
	for s, want := range map[string]api.Errno{
		"00:02.000 --> 00:04.000":                 api.OK,
		"00:02.000 --> 00:04.001":                 api.OK,
		"00:02.001 --> 00:03.000":                 api.OK,
		"00:02.000 --> 00:03.999":                 api.ErrOrder,
		"00:01.999 --> 00:09.000":                 api.ErrOrder,
		"00:01.000 --> 00:00.000":                 api.ErrBack,
		"00:01.000 --> 00:01.000":                 api.ErrBack,
		"00:01.000 --> x":                         api.ErrTime,
		"00:01.000 --> 00:01.500 x":               api.ErrLine,
		"00:01.000 --> 00:01.500\n\nx":            api.ErrOrder,
		"00:02.000 --> 00:04.000\n<\n\n\n\nx\n\n": api.ErrEnd,
	} {
		d, f := vtt.Parse([]byte(ahead + s))
		line := 7
		if want == api.ErrEnd {
			line = 13
		}
		if f.Err != want || want != api.OK && f.Line != line || len(d.Cues) == 0 || !sameCue(d.Cues[0], low(2, 4, "a")) {
			t.Errorf("%q: %+v, %v; want %v", s, d, f, want)
		}
		if many := map[api.Errno]int{api.OK: 2, api.ErrEnd: 2}[want]; len(d.Cues) != max(many, 1) {
			t.Errorf("%q: %+v", s, d)
		}
	}
}

// TestMany: P1503, P11: as many cues as may be, and one more; the other faults of its times come ahead.
func TestMany(t *testing.T) {
	b, _, err := vtt.Write(times(4096, low(1, 2, "a")))
	if err != nil {
		t.Fatal(err)
	}
	const line = 4096*3 + 3
	for s, want := range map[string]api.Fault{
		"":                          {},
		"NOTE\nx":                   {},
		"00:01.000 --> 00:02.000\n": {Err: api.ErrMany, Line: line, Col: 1},
		"id\n00:01.000 --> 00:02.000\n" + strings.Repeat("x", 5000): {Err: api.ErrMany, Line: line + 1, Col: 1},
		"00:01.000 --> 00:01.500\na":                                {Err: api.ErrOrder, Line: line, Col: 1},
		"00:01.000 --> 00:01.000\na":                                {Err: api.ErrBack, Line: line, Col: 1},
		"00:01.000 --> 00:02.000 \na":                               {Err: api.ErrLine, Line: line, Col: 24},
		"00:01.000 --> 0\na":                                        {Err: api.ErrTime, Line: line, Col: 15},
		"00:01.000-->\na":                                           {Err: api.ErrLine, Line: line, Col: 1},
		"x":                                                         {Err: api.ErrEnd, Line: line + 1, Col: 1},
	} {
		if d, f := vtt.Parse([]byte(string(b) + "\n" + s)); f != want || len(d.Cues) != 4096 {
			t.Errorf("%.60q: %d, %v; want %v", s, len(d.Cues), f, want)
		}
	}
}
