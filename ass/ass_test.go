package ass_test

import (
	"errors"
	"slices"
	"strings"
	"testing"

	"surtitle/api"
	"surtitle/ass"
	"surtitle/cue"
)

func r(n, d int64) api.Ratio { return api.Ratio{N: n, D: d} }

func whole(n int64) api.Ratio { return r(n, 1) }

// at is a cue of these times.
func at(from, to api.Ratio, s string, spans ...api.Span) api.Cue {
	return api.Cue{Start: from, End: to, Text: api.Text{S: s, Spans: spans}}
}

// low is a cue of whole seconds.
func low(from, to int64, s string, spans ...api.Span) api.Cue {
	return at(whole(from), whole(to), s, spans...)
}

// but is a cue of which something is another thing.
func but(x api.Cue, turn func(*api.Cue)) api.Cue {
	turn(&x)
	return x
}

// by is a cue in a lane, on a side, with a name.
func by(x api.Cue, lane, side int, name string) api.Cue {
	x.Lane, x.Side, x.Name = lane, side, name
	return x
}

func doc(l ...api.Cue) api.Doc { return api.Doc{Cues: l} }

// times is a document of the same cue, so many times.
func times(n int, x api.Cue) api.Doc { return doc(slices.Repeat([]api.Cue{x}, n)...) }

func sameCue(x, y api.Cue) bool {
	return x.Start == y.Start && x.End == y.End && x.Lane == y.Lane && x.Side == y.Side && x.Name == y.Name &&
		x.Text.S == y.Text.S && slices.Equal(x.Text.Spans, y.Text.Spans)
}

func sameDoc(x, y api.Doc) bool { return slices.EqualFunc(x.Cues, y.Cues, sameCue) }

// wrong is what an error should be; OK: none.
type wrong struct {
	cue int
	e   api.Errno
}

// is tells whether an error is that one.
func (f wrong) is(err error) bool {
	if f.e == api.OK {
		return err == nil
	}
	w, ok := err.(*cue.Wrong)
	return ok && w != nil && *w == cue.Wrong{Cue: f.cue, Err: f.e}
}

func bold(from, to int) api.Span   { return api.Span{From: from, To: to, Kind: api.KBold} }
func italic(from, to int) api.Span { return api.Span{From: from, To: to, Kind: api.KItalic} }
func strike(from, to int) api.Span { return api.Span{From: from, To: to, Kind: api.KStrike} }
func colour(from, to, value int) api.Span {
	return api.Span{From: from, To: to, Kind: api.KColour, Value: value}
}

// top is what Write writes ahead of all cues; few is a head with the fields that must be.
const (
	top = "[Script Info]\nScriptType: v4.00+\n\n[Events]\nFormat: Layer, Start, End, Style, Name, MarginL, MarginR, MarginV, Effect, Text\n"
	few = "[Script Info]\n[Events]\nFormat: Start,End,Text\n"
)

// TestCan: P1701.
func TestCan(t *testing.T) {
	if can := ass.Can(); can != (api.Can{Dialect: api.DBrace, Grid: r(1, 100), Lane: true, Side: true, Name: true, Blank: true}) {
		t.Errorf("%+v", can)
	}
}

// TestKeep: P1701.
func TestKeep(t *testing.T) {
	looks := []api.Span{bold(0, 3), strike(0, 1), colour(4, 5, 7)}
	for n, x := range []struct {
		d, want api.Doc
		lost    []api.Loss
	}{
		{doc(), doc(), nil},
		// all that the format can say
		{doc(by(at(r(1, 100), r(1, 50), "\na\n\nb\n", looks...), 7, api.High, "Ann")), doc(by(at(r(1, 100), r(1, 50), "\na\n\nb\n", looks...), 7, api.High, "Ann")), nil},
		{doc(low(0, 1, ""), by(at(r(1, 3), r(2, 3), "a\x00\n\n<{b|}\\", bold(0, 1)), 3, api.High, "A, B")),
			doc(low(0, 1, ""), by(at(r(33, 100), r(67, 100), "a \n\n<\uff5bb|\uff5d\uff3c", bold(0, 1)), 3, api.High, "")),
			[]api.Loss{{Cue: 1, Kind: api.LTime, N: 1}, {Cue: 1, Kind: api.LName, N: 1}, {Cue: 1, Kind: api.LSign, N: 4}}},
		// halves go up; an end is one step behind its beginning at least
		{doc(at(r(1, 200), r(1, 125), "")), doc(at(r(1, 100), r(1, 50), "")), []api.Loss{{Kind: api.LTime, N: 1}}},
		{doc(at(r(1, 1000), r(1, 500), "")), doc(at(whole(0), r(1, 100), "")), []api.Loss{{Kind: api.LTime, N: 1}}},
		// in order again
		{doc(at(r(1, 1000), whole(9), "long"), at(r(1, 500), whole(5), "short")), doc(low(0, 5, "short"), low(0, 9, "long")),
			[]api.Loss{{Cue: 0, Kind: api.LTime, N: 1}, {Cue: 1, Kind: api.LTime, N: 1}}},
		// a normal form
		{doc(low(0, 1, "ab", bold(0, 1), bold(1, 2))), doc(low(0, 1, "ab", bold(0, 2))), nil},
	} {
		got, lost, err := ass.Keep(x.d)
		if err != nil || !sameDoc(got, x.want) || !slices.Equal(lost, x.lost) {
			t.Errorf("%d: Keep: %+v, %v, %v; want %+v, %v", n, got, lost, err, x.want, x.lost)
		}
	}
}

// TestWrite: P1702.
func TestWrite(t *testing.T) {
	late := []api.Loss{{Kind: api.LTime, N: 1}}
	for n, x := range []struct {
		d    api.Doc
		want string // behind the head
		lost []api.Loss
	}{
		{doc(), "", nil},
		{doc(by(at(whole(1), r(5, 2), "Hi, there"), 2, api.High, "Ann")), "Dialogue: 2,0:00:01.00,0:00:02.50,Default,Ann,0,0,0,,{\\an8}Hi, there\n", nil},
		{doc(low(0, 1, "")), "Dialogue: 0,0:00:00.00,0:00:01.00,Default,,0,0,0,,\n", nil},
		{doc(by(low(0, 1, ""), 7, api.High, "")), "Dialogue: 7,0:00:00.00,0:00:01.00,Default,,0,0,0,,{\\an8}\n", nil},
		{doc(low(0, 1, "a"), low(0, 1, ""), low(3, 4, "b")), "Dialogue: 0,0:00:00.00,0:00:01.00,Default,,0,0,0,,a\n" +
			"Dialogue: 0,0:00:00.00,0:00:01.00,Default,,0,0,0,,\nDialogue: 0,0:00:03.00,0:00:04.00,Default,,0,0,0,,b\n", nil},
		// looks and line ends
		{doc(by(low(0, 1, "a\n\nbc", bold(0, 3), italic(0, 1), colour(4, 5, 0x0000FE)), 0, api.High, "")),
			"Dialogue: 0,0:00:00.00,0:00:01.00,Default,,0,0,0,,{\\an8\\b1\\i1}a{\\i0}\\N\\N{\\b0}b{\\c&HFE0000&}c\n", nil},
		{doc(low(0, 1, "\n")), "Dialogue: 0,0:00:00.00,0:00:01.00,Default,,0,0,0,,\\N\n", nil},
		// bytes that are no signs, blanks at the ends, line ends of a file that are none of a text
		{doc(by(low(0, 1, " \xc3\n\xa9\xff "), 0, 0, " \xc3 ")), "Dialogue: 0,0:00:00.00,0:00:01.00,Default, \xc3 ,0,0,0,, \xc3\\N\xa9\xff \n", nil},
		{doc(low(0, 1, "a\rb\r\n")), "Dialogue: 0,0:00:00.00,0:00:01.00,Default,,0,0,0,,a b \\N\n", []api.Loss{{Kind: api.LSign, N: 2}}},
		// what looks like a part of a file is a text, a name like any other
		{doc(by(low(0, 1, "[Events]"), 0, 0, "[Events]; Format: Text")), "Dialogue: 0,0:00:00.00,0:00:01.00,Default,[Events]; Format: Text,0,0,0,,[Events]\n", nil},
		{doc(low(0, 1, "\\N{\\b1}")), "Dialogue: 0,0:00:00.00,0:00:01.00,Default,,0,0,0,,\uff3cN\uff5b\uff3cb1\uff5d\n", []api.Loss{{Kind: api.LSign, N: 4}}},
		{doc(by(low(0, 1, ",,"), 0, 0, "\ufeff")), "Dialogue: 0,0:00:00.00,0:00:01.00,Default,\ufeff,0,0,0,,,,\n", nil},
		{doc(by(low(0, 1, "x"), 0, 0, "a,b")), "Dialogue: 0,0:00:00.00,0:00:01.00,Default,,0,0,0,,x\n", []api.Loss{{Kind: api.LName, N: 1}}},
		// the ends of time
		{doc(at(r(35999999, 100), whole(360000), "x")), "Dialogue: 0,99:59:59.99,100:00:00.00,Default,,0,0,0,,x\n", nil},
		{doc(at(r(359999999, 1000), whole(360000), "x")), "Dialogue: 0,99:59:59.99,100:00:00.00,Default,,0,0,0,,x\n", late},
		{doc(at(r(1, 1<<20), r(1, 1<<19), "x")), "Dialogue: 0,0:00:00.00,0:00:00.01,Default,,0,0,0,,x\n", late},
		{doc(at(r(3661, 1), r(36610, 1), "x")), "Dialogue: 0,1:01:01.00,10:10:10.00,Default,,0,0,0,,x\n", nil},
	} {
		got, lost, err := ass.Write(x.d)
		if err != nil || string(got) != top+x.want || !slices.Equal(lost, x.lost) {
			t.Errorf("%d: Write: %q, %v, %v; want %q, %v", n, got, lost, err, top+x.want, x.lost)
		}
	}
}

// wide is a document whose file would have so many bytes.
func wide(size int) api.Doc {
	const head, many = len("Dialogue: 0,0:00:01.00,0:00:02.00,Default,,0,0,0,,\n"), 2000
	size -= len(top)
	each := size/many - head
	d := times(many-1, low(1, 2, strings.Repeat("x", each)))
	d.Cues = append(d.Cues, low(1, 3, strings.Repeat("y", size-(many-1)*(each+head)-head)))
	return d
}

// TestWriteLong: P1702: a file of as many bytes as may be, and of one more; there and back (P1704).
func TestWriteLong(t *testing.T) {
	d := wide(1 << 22)
	b, lost, err := ass.Write(d)
	if err != nil || len(b) != 1<<22 || len(lost) != 0 {
		t.Fatal(len(b), lost, err)
	}
	if back, f := ass.Parse(b); f != (api.Fault{}) || !sameDoc(back, d) {
		t.Error(len(back.Cues), f)
	}
	for n, d := range []api.Doc{
		wide(1<<22 + 1),
		// what is lost is told of no file
		times(4096, low(0, 1, strings.Repeat("x", 1000)+"\x00")),
		// look-alikes are longer than the signs for which they stand
		times(4096, low(0, 1, strings.Repeat("{", 330))),
		// so are forms
		times(4096, low(0, 1, strings.Repeat("\n", 500))),
		// and names are written, too
		times(4096, by(low(0, 1, strings.Repeat("x", 930)), 0, 0, strings.Repeat("n", 64))),
	} {
		b, lost, err := ass.Write(d)
		if !(wrong{0, api.ErrLong}).is(err) || len(b) != 0 || len(lost) != 0 {
			t.Error(n, len(b), lost, err)
		}
	}
}

// TestNotRight: P1701, P1702: cue.Keep's errors are those of both calls, ahead of ErrLong.
func TestNotRight(t *testing.T) {
	long := times(4000, low(0, 1, strings.Repeat("x", 1100))).Cues
	for n, x := range []struct {
		d api.Doc
		f wrong
	}{
		{doc(low(1, 1, "")), wrong{0, api.ErrBack}},
		{doc(low(0, 1, ""), low(-1, 1, "")), wrong{1, api.ErrTime}},
		{doc(low(0, 1, ""), low(0, api.MaxTime+1, "")), wrong{1, api.ErrTime}},
		{doc(at(r(2, 4), whole(1), "")), wrong{0, api.ErrWide}},
		{doc(low(2, 3, ""), low(1, 5, "")), wrong{1, api.ErrOrder}},
		{doc(but(low(0, 1, ""), func(x *api.Cue) { x.Lane = 8 })), wrong{0, api.ErrLane}},
		{doc(but(low(0, 1, ""), func(x *api.Cue) { x.Lane = -1 })), wrong{0, api.ErrLane}},
		{doc(but(low(0, 1, ""), func(x *api.Cue) { x.Side = 2 })), wrong{0, api.ErrLane}},
		{doc(but(low(0, 1, ""), func(x *api.Cue) { x.Name = "\n" })), wrong{0, api.ErrName}},
		{doc(low(0, 1, "a", bold(0, 2))), wrong{0, api.ErrSpan}},
		{doc(low(0, 1, strings.Repeat("x", 4097))), wrong{0, api.ErrLong}},
		{times(4097, low(0, 1, "")), wrong{0, api.ErrMany}},
		// look-alikes make a text too long
		{doc(low(0, 1, ""), low(0, 1, strings.Repeat("{", 1366))), wrong{1, api.ErrLong}},
		{doc(low(0, 1, ""), low(0, 1, strings.Repeat("{", 1365))), wrong{}},
		// ahead of a file that would be too long
		{doc(append(long, low(1, 1, ""))...), wrong{4000, api.ErrBack}},
		{doc(append(long, low(1, 2, strings.Repeat("x", 4097)))...), wrong{4000, api.ErrLong}},
	} {
		d, lost, err := ass.Keep(x.d)
		if !x.f.is(err) || err != nil && (len(d.Cues) != 0 || len(lost) != 0) {
			t.Errorf("%d: Keep: %+v, %v, %v; want %v", n, d, lost, err, x.f)
		}
		b, lost, err := ass.Write(x.d)
		if !x.f.is(err) || err != nil && (len(b) != 0 || len(lost) != 0) {
			t.Errorf("%d: Write: %q, %v, %v; want %v", n, b, lost, err, x.f)
		}
	}
	_, _, err := ass.Write(doc(low(0, 1, ""), low(1, 1, "")))
	if err == nil || err.Error() != "cue 1: back" || !errors.Is(err, api.ErrBack) {
		t.Error(err)
	}
}

// TestParse: P1703 and the examples 1 and 2: files without faults.
func TestParse(t *testing.T) {
	const line = "Dialogue: 0:00:01.00,0:00:02.00,"
	a := low(1, 2, "a")
	for s, want := range map[string]api.Doc{
		top:                           doc(),
		few:                           doc(),
		strings.TrimSuffix(few, "\n"): doc(),
		"\ufeff" + few + line + "a":   doc(a),
		"\n\r\r\n" + few + line + "a": doc(a),
		"\ufeff\n\n" + few + line:     doc(low(1, 2, "")),
		strings.ReplaceAll(few+line+"a\n", "\n", "\r"):   doc(a),
		strings.ReplaceAll(few+line+"a\n", "\n", "\r\n"): doc(a),
		// the examples
		top + "Dialogue: 2,0:00:01.00,0:00:02.50,Default,Ann,0,0,0,,{\\an8}Hi, there":          doc(by(at(whole(1), r(5, 2), "Hi, there"), 2, api.High, "Ann")),
		"[Script Info]\n[Events]\nFormat: End,Start , Text":                                    doc(),
		"[Script Info]\n[Events]\nFormat: End,Start , Text\nDialogue: 0:00:02.00,0:00:01.00,a": doc(a),
		// all lines that are passed over
		few + ";\n; x\n;Dialogue: x\n\n\r\nComment:\nComment: 0:00:05.00,0:00:06.00,c\nComment:x\n" + line + "a":        doc(a),
		"[Script Info]\n;\nx\nDialogue: x\nFormat: x\n\n[Events]\n;\nComment:\n\nFormat: Start,End,Text\n" + line + "a": doc(a),
		// parts: the last one has all commas that are left
		few + line:             doc(low(1, 2, "")),
		few + line + ",":       doc(low(1, 2, ",")),
		few + line + "a,b,,c,": doc(low(1, 2, "a,b,,c,")),
		top + "Dialogue: 7,0:00:01.00,0:00:02.00,,,,,,,":                                 doc(by(low(1, 2, ""), 7, 0, "")),
		top + "Dialogue: 0,0:00:01.00,0:00:02.00,,,,,,,,,":                               doc(low(1, 2, ",,")),
		top + "Dialogue: 0,0:00:01.00,0:00:02.00,x\t,\xffn\xc3 ,é,-1,\x00,;[,a":          doc(by(low(1, 2, "a"), 0, 0, "\xffn\xc3 ")),
		top + "Dialogue: 0,0:00:01.00,0:00:02.00,," + strings.Repeat("n", 64) + ",,,,,a": doc(by(a, 0, 0, strings.Repeat("n", 64))),
		// texts
		few + line + " a ":                        doc(low(1, 2, " a ")),
		few + line + "{\\an8}":                    doc(by(low(1, 2, ""), 0, api.High, "")),
		few + line + "a{\\an8}":                   doc(low(1, 2, "a{\\an8}")),
		few + line + "\\N{\\b1}a\\Nb{\\b0}{x}\\n": doc(low(1, 2, "\na\nb{x}\\n", bold(1, 4))),
		few + line + "{\\c&H0000FF&}a{\\c}b":      doc(low(1, 2, "ab", colour(0, 1, 0xFF0000))),
		few + line + "<b>&lt;|{y:b}":              doc(low(1, 2, "<b>&lt;|{y:b}")),
		few + line + "\x00\xff\xc3\\N\xa9\t":      doc(low(1, 2, "\x00\xff\xc3\n\xa9\t")),
		few + line + "\ufeffa":                    doc(low(1, 2, "\ufeffa")),
		few + line + strings.Repeat("x", 4096):    doc(low(1, 2, strings.Repeat("x", 4096))),
		few + line + strings.Repeat("\\N", 4096):  doc(low(1, 2, strings.Repeat("\n", 4096))),
		// times
		few + "Dialogue: 0:00:00.00,100:00:00.00,":       doc(low(0, 360000, "")),
		few + "Dialogue: 9:59:59.99,10:00:00.00,":        doc(at(r(3599999, 100), whole(36000), "")),
		few + line + "a\n" + line + "a\n\n" + line + "a": doc(a, a, a),
	} {
		if d, f := ass.Parse([]byte(s)); f != (api.Fault{}) || !sameDoc(d, want) {
			t.Errorf("Parse(%q): %+v, %v; want %+v", s, d, f, want)
		}
	}
}

// TestHead: P1703, 1 and 6, and the example 2: a file that begins otherwise, and one that tells no fields.
func TestHead(t *testing.T) {
	for s, want := range map[string]api.Fault{
		"":                                  {Err: api.ErrHead, Line: 1, Col: 1},
		"\n":                                {Err: api.ErrHead, Line: 2, Col: 1},
		"\n\n":                              {Err: api.ErrHead, Line: 3, Col: 1},
		"\r\n\r\r\n":                        {Err: api.ErrHead, Line: 4, Col: 1},
		"\ufeff":                            {Err: api.ErrHead, Line: 2, Col: 1},
		"\ufeff\r\n\n":                      {Err: api.ErrHead, Line: 3, Col: 1},
		"x":                                 {Err: api.ErrHead, Line: 1, Col: 1},
		" ":                                 {Err: api.ErrHead, Line: 1, Col: 1},
		"\n \n[Script Info]":                {Err: api.ErrHead, Line: 2, Col: 1},
		"[Events]":                          {Err: api.ErrHead, Line: 1, Col: 1},
		"\n\n[Events]\nFormat: Text\nx":     {Err: api.ErrHead, Line: 3, Col: 1},
		"[Script Info":                      {Err: api.ErrHead, Line: 1, Col: 1},
		"[Script Info] ":                    {Err: api.ErrHead, Line: 1, Col: 1},
		" [Script Info]":                    {Err: api.ErrHead, Line: 1, Col: 1},
		"[script info]":                     {Err: api.ErrHead, Line: 1, Col: 1},
		"[Script Info];":                    {Err: api.ErrHead, Line: 1, Col: 1},
		"[ScriptInfo]":                      {Err: api.ErrHead, Line: 1, Col: 1},
		"; x\n" + few:                       {Err: api.ErrHead, Line: 1, Col: 1},
		"\ufeff\ufeff" + few:                {Err: api.ErrHead, Line: 1, Col: 1},
		"\n\ufeff" + few:                    {Err: api.ErrHead, Line: 2, Col: 1},
		"\ufeff\n\ufeff" + few:              {Err: api.ErrHead, Line: 2, Col: 1},
		"\xef\xbb" + few:                    {Err: api.ErrHead, Line: 1, Col: 1},
		"[Script Info]":                     {Err: api.ErrEnd, Line: 2, Col: 1},
		"[Script Info]\n":                   {Err: api.ErrEnd, Line: 2, Col: 1},
		"\ufeff[Script Info]":               {Err: api.ErrEnd, Line: 2, Col: 1},
		"[Script Info]\r\n\r\n":             {Err: api.ErrEnd, Line: 3, Col: 1},
		"\n\n[Script Info]\nx\n":            {Err: api.ErrEnd, Line: 5, Col: 1},
		"[Script Info]\n[Events]":           {Err: api.ErrEnd, Line: 3, Col: 1},
		"[Script Info]\n[Events]\n;\n\n":    {Err: api.ErrEnd, Line: 5, Col: 1},
		"[Script Info]\r[Events]\rComment:": {Err: api.ErrEnd, Line: 4, Col: 1},
		"[Script Info]\nFormat: Start, End, Text\n":                    {Err: api.ErrEnd, Line: 3, Col: 1},
		"[Script Info]\n[V4+ Styles]\nFormat: Start, End, Text\n":      {Err: api.ErrEnd, Line: 4, Col: 1},
		"[Script Info]\n[Events]\n[Other]\nFormat: Start, End, Text\n": {Err: api.ErrEnd, Line: 5, Col: 1},
	} {
		if d, f := ass.Parse([]byte(s)); f != want || len(d.Cues) != 0 {
			t.Errorf("Parse(%q): %+v, %v; want %v", s, d, f, want)
		}
	}
}

// TestSections: P1703, 2: which lines count.
func TestSections(t *testing.T) {
	const line, other = "Dialogue: 0:00:01.00,0:00:02.00,a\n", "x\nDialogue: y\nFormat: z\n;\n\n"
	a := low(1, 2, "a")
	for n, x := range []struct {
		s    string
		cues int
		f    api.Fault
	}{
		{"[Script Info]\n" + other + "[Events]\nFormat: Start,End,Text\n" + line, 1, api.Fault{}},
		{few + line + "[Fonts]\n" + other + line, 1, api.Fault{}},
		{few + line + "[Fonts]\n" + other + "[Events]\n" + line + line, 3, api.Fault{}},
		{few + line + "[Events]\n" + line, 2, api.Fault{}},
		{few + line + "[Script Info]\n" + other + "[Events]\n" + line, 2, api.Fault{}},
		{"[Script Info]\n[Events]\n[Fonts]\n" + other + "[Events]\n\nFormat: Start,End,Text\n[x]\n[Events]\n" + line, 1, api.Fault{}},
		// those that are named otherwise
		{few + "[Events] \n" + line + other, 0, api.Fault{}},
		{few + "[events]\n" + line + other, 0, api.Fault{}},
		{few + "[Events\n" + line + other, 0, api.Fault{}},
		{few + "[Events]x\n" + line + other, 0, api.Fault{}},
		{few + "[[Events]]\n" + line + other, 0, api.Fault{}},
		{few + "[\n" + line + other, 0, api.Fault{}},
		{few + "[]\n" + line + other, 0, api.Fault{}},
		// what does not begin with the bracket begins none
		{few + " [Fonts]\n" + line, 0, api.Fault{Err: api.ErrLine, Line: 4, Col: 1}},
		{"[Script Info]\n [Events]\nFormat: Start,End,Text\n" + line, 0, api.Fault{Err: api.ErrEnd, Line: 5, Col: 1}},
		{few + line + "[Fonts]\nx\n[Events]\nx", 1, api.Fault{Err: api.ErrLine, Line: 8, Col: 1}},
		// fields are told once in a file
		{few + line + "[Fonts]\n[Events]\nFormat: Start,End,Text\n", 1, api.Fault{Err: api.ErrLine, Line: 7, Col: 1}},
	} {
		if d, f := ass.Parse([]byte(x.s)); f != x.f || !sameDoc(d, times(x.cues, a)) {
			t.Errorf("%d: Parse(%q): %+v, %v; want %d, %v", n, x.s, d, f, x.cues, x.f)
		}
	}
}

// TestFields: P1703, 3: which lines tell fields, and how they part a cue.
func TestFields(t *testing.T) {
	for s, parts := range map[string]string{
		"Start,End,Text":                "0:00:01.00,0:00:02.00,a,b",
		"End,Start,Text":                "0:00:02.00,0:00:01.00,a,b",
		"  Start  ,End   ,   Text   ":   "0:00:01.00,0:00:02.00,a,b",
		" Start, End, Text":             "0:00:01.00,0:00:02.00,a,b",
		"Start,,End,Text":               "0:00:01.00,,0:00:02.00,a,b",
		"x,Start, y ,End,é\xff,Text":    "1,0:00:01.00,2,0:00:02.00,\x00é,a,b",
		"start,Start,End,END,Text":      "?,0:00:01.00,0:00:02.00,?,a,b",
		"Start,End,text,Text":           "0:00:01.00,0:00:02.00,,a,b",
		"\tText,\tStart,Start,End,Text": "?,?,0:00:01.00,0:00:02.00,a,b",
		"Marg in,Start,End,Text":        "?,0:00:01.00,0:00:02.00,a,b",
		"Start,End,layer,name,Text":     "0:00:01.00,0:00:02.00,9,\x00,a,b",
	} {
		if d, f := ass.Parse([]byte("[Script Info]\n[Events]\nFormat: " + s + "\nDialogue: " + parts)); f != (api.Fault{}) || !sameDoc(d, doc(low(1, 2, "a,b"))) {
			t.Errorf("%q: %+v, %v", s, d, f)
		}
	}
	for s, parts := range map[string]string{
		"Layer,Start,End,Name,Text":    "3,0:00:01.00,0:00:02.00,Ann,a",
		"Name,Layer,End,Start,Text":    "Ann,3,0:00:02.00,0:00:01.00,a",
		"Start,Name,x,End, Layer,Text": "0:00:01.00,Ann,,0:00:02.00,3,a",
	} {
		if d, f := ass.Parse([]byte("[Script Info]\n[Events]\nFormat: " + s + "\nDialogue: " + parts)); f != (api.Fault{}) || !sameDoc(d, doc(by(low(1, 2, "a"), 3, 0, "Ann"))) {
			t.Errorf("%q: %+v, %v", s, d, f)
		}
	}
	for _, s := range []string{
		"Format: ", "Format: Text", "Format: Start, End", "Format: Start, Text", "Format: End, Text", "Format: Start, End, Text,",
		"Format: Start, End, Text, Name", "Format: Text, Start, End", "Format: Start, End, text", "Format: start, End, Text",
		"Format: Start, End, Text x", "Format: Start, End,\tText", "Format: Start, End, Text\t", "Format: Start, End, Text\x00", "Format: Start\u00a0, End, Text",
		"Format: Start, Start, End, Text", "Format: Start, End, End, Text", "Format: Text, Start, End, Text", "Format: Layer, Layer , Start, End, Text",
		"Format: x, Start, x, End, Text", "Format: ,,Start,End,Text", "Format: Start, ,End, ,Text", "Format: Start;End;Text", "Format: Start End Text",
		"Format:", "Format:Start, End, Text", "Format:\tStart, End, Text", "format: Start, End, Text", " Format: Start, End, Text", "Format : Start, End, Text", "Format",
	} {
		want := api.Fault{Err: api.ErrLine, Line: 4, Col: 1}
		if d, f := ass.Parse([]byte("[Script Info]\n[Events]\n\n" + s + "\nFormat: Start, End, Text")); f != want || len(d.Cues) != 0 {
			t.Errorf("%q: %v; want %v", s, f, want)
		}
		// A second line of fields is one too many, whatever it tells; all others are none.
		if d, f := ass.Parse([]byte(few + s)); f != want || len(d.Cues) != 0 {
			t.Errorf("%q: %v; want %v", s, f, want)
		}
	}
	for _, s := range []string{"Format: Start,End,Text", "Format: End, Start, Text", ";\nFormat: Start, End, Text"} {
		want := api.Fault{Err: api.ErrLine, Line: 5 + strings.Count(s, "\n"), Col: 1}
		if d, f := ass.Parse([]byte(few + "Dialogue: 0:00:01.00,0:00:02.00,a\n" + s)); f != want || !sameDoc(d, doc(low(1, 2, "a"))) {
			t.Errorf("%q: %v; want %v", s, f, want)
		}
	}
}

// TestLines: P1703, 4 and 5: lines of the section that are none; ahead of the fields a cue is none, either.
func TestLines(t *testing.T) {
	for _, s := range []string{
		"x", " ", "\ufeff", "\xff", "\x00", "Dialogue", "Dialogue:", "Dialogue:0:00:01.00,0:00:02.00,a", "Dialogue:\t0:00:01.00,0:00:02.00,a",
		"dialogue: 0:00:01.00,0:00:02.00,a", " Dialogue: 0:00:01.00,0:00:02.00,a", "\ufeffDialogue: 0:00:01.00,0:00:02.00,a", "Dialogue : x",
		"Comment", "comment: x", " Comment: x", " ;", "// x", "Picture: x", "0:00:01.00,0:00:02.00,a", " [Events]", "Style: x", "]",
		"Dialogue: ", "Dialogue: x", "Dialogue: ,", "Dialogue: 0:00:01.00,0:00:02.00", "Dialogue: 0:00:02.00,0:00:01.00", "Dialogue: a;b;c",
	} {
		want := api.Fault{Err: api.ErrLine, Line: 4, Col: 1}
		if d, f := ass.Parse([]byte(few + s)); f != want || len(d.Cues) != 0 {
			t.Errorf("%q: %v; want %v", s, f, want)
		}
		if _, f := ass.Parse([]byte("[Script Info]\n\n[Events]\n" + s + "\nFormat: Start, End, Text")); f != want {
			t.Errorf("%q: %v; want %v", s, f, want)
		}
		want.Line = 6
		if d, f := ass.Parse([]byte(few + "Dialogue: 0:00:01.00,0:00:02.00,a\n\n" + s + "\nx")); f != want || !sameDoc(d, doc(low(1, 2, "a"))) {
			t.Errorf("%q: %v, %v; want %v", s, d, f, want)
		}
	}
	// Ahead of the fields.
	for _, s := range []string{"Dialogue: 0:00:01.00,0:00:02.00,a", "Dialogue: 0,0:00:01.00,0:00:02.00,,,,,,,a", "Dialogue: " + strings.Repeat("x,", 100)} {
		if d, f := ass.Parse([]byte("[Script Info]\n[Events]\n" + s + "\nFormat: Start, End, Text\n" + s)); f != (api.Fault{Err: api.ErrLine, Line: 3, Col: 1}) || len(d.Cues) != 0 {
			t.Errorf("%q: %v, %v", s, d, f)
		}
	}
}

// TestFaults: P1703, 4, and the example 3: each fault of a cue's line, its place, and the cues ahead of it.
func TestFaults(t *testing.T) {
	long, many, name := strings.Repeat("x", 4097), strings.Repeat("{\\b1}x{\\b0}y", 257), strings.Repeat("n", 65)
	const ok = "0,0:00:01.00,0:00:02.00,"
	for _, x := range []struct {
		s   string
		e   api.Errno
		col int
	}{
		{"", api.ErrLine, 1},
		{"0,0:00:01.00,0:00:02.00,,,,,,a", api.ErrLine, 1},
		{"8,x,0:00:02.00", api.ErrLine, 1},
		{"a,b,c,d", api.ErrLine, 1},
		{"0,1:2,0:00:02.00,,,,,,,a", api.ErrTime, 13},
		{"0,,0:00:02.00,,,,,,,a", api.ErrTime, 13},
		{"0,00:00:01.00,0:00:02.00,,,,,,,a", api.ErrTime, 13},
		{"0, 0:00:01.00,0:00:02.00,,,,,,,a", api.ErrTime, 13},
		{"0,0:00:01.00 ,0:00:02.00,,,,,,,a", api.ErrTime, 13},
		{"0,0:00:01.000,0:00:02.00,,,,,,,a", api.ErrTime, 13},
		{"0,0:00:01:00,0:00:02.00,,,,,,,a", api.ErrTime, 13},
		{"0,0:60:01.00,0:00:02.00,,,,,,,a", api.ErrTime, 13},
		{"0,100:00:00.01,100:00:00.02,,,,,,,a", api.ErrTime, 13},
		{"0,999:00:00.00,x,,,,,,,a", api.ErrTime, 13},
		{"é\xff\xc3,x,0:00:02.00,,,,,,,a", api.ErrTime, 15},
		{"8,x,y,," + name + ",,,,," + long, api.ErrTime, 13},
		{"0,0:00:01.00,x,,,,,,,a", api.ErrTime, 24},
		{"0,0:00:01.00,,,,,,,,a", api.ErrTime, 24},
		{"0,0:00:01.00,100:00:00.01,,,,,,,a", api.ErrTime, 24},
		{"0,0:00:01.00,-0:00:02.00,,,,,,,a", api.ErrTime, 24},
		{"\U0001f600,10:00:01.00,x,," + name + ",,,,," + long, api.ErrTime, 25},
		{"0,0:00:03.00,0:00:02.00,,,,,,,a", api.ErrBack, 1},
		{"0,0:00:03.00,0:00:03.00,,,,,,,a", api.ErrBack, 1},
		{"8,0:00:03.00,0:00:02.00,," + name + ",,,,," + long, api.ErrBack, 1},
		{"8,0:00:01.00,0:00:02.00,,,,,,,a", api.ErrLane, 11},
		{"9,0:00:01.00,0:00:02.00,,,,,,,a", api.ErrLane, 11},
		{",0:00:01.00,0:00:02.00,,,,,,,a", api.ErrLane, 11},
		{"-1,0:00:01.00,0:00:02.00,,,,,,,a", api.ErrLane, 11},
		{"00,0:00:01.00,0:00:02.00,,,,,,,a", api.ErrLane, 11},
		{"10,0:00:01.00,0:00:02.00,,,,,,,a", api.ErrLane, 11},
		{" 0,0:00:01.00,0:00:02.00,,,,,,,a", api.ErrLane, 11},
		{"0 ,0:00:01.00,0:00:02.00,,,,,,,a", api.ErrLane, 11},
		{"/,0:00:01.00,0:00:02.00,,,,,,,a", api.ErrLane, 11},
		{"x,0:00:01.00,0:00:02.00,,,,,,,a", api.ErrLane, 11},
		{"\u0661,0:00:01.00,0:00:02.00,,,,,,,a", api.ErrLane, 11},
		{"\xff,0:00:01.00,0:00:02.00,,,,,,,a", api.ErrLane, 11},
		{"8,0:00:01.00,0:00:02.00,," + name + ",,,,," + long, api.ErrLane, 11},
		{ok + ",a\tb,,,,,a", api.ErrName, 36},
		{ok + "," + name + ",,,,,a", api.ErrName, 36},
		{ok + ",\x1f,,,,,a", api.ErrName, 36},
		{ok + ",\x00\xff,,,,,a", api.ErrName, 36},
		{ok + "Default," + strings.Repeat("é", 33) + ",,,,,a", api.ErrName, 43},
		{ok + "é\xff\xc3中," + name + ",,,,," + long, api.ErrName, 40},
		{ok + ",,,,,," + long, api.ErrLong, 41},
		{ok + ",,,,,," + long + "," + long, api.ErrLong, 41},
		{ok + ",,,,,," + strings.Repeat("\xff,", 2049), api.ErrLong, 41},
		{ok + "Default,Ann,0,0,0,," + long, api.ErrLong, 54},
		{ok + "é\xff\xc3,中\xe4\xb8,\U0001f600,,," + "\xc3," + long, api.ErrLong, 49},
		{ok + ",,,,,," + many, api.ErrMany, 41},
		{ok + ",é,,,,," + many, api.ErrMany, 42},
	} {
		want := api.Fault{Err: x.e, Line: 6, Col: x.col}
		if d, f := ass.Parse([]byte(top + "Dialogue: " + x.s)); f != want || len(d.Cues) != 0 {
			t.Errorf("Parse(%.60q): %+v, %v; want %v", x.s, d, f, want)
		}
		// With a cue ahead of it that stands whole, and a line behind it.
		want.Line += 2
		s := top + "Dialogue: 0,0:00:01.00,0:00:02.00,,,,,,,a\n\nDialogue: " + x.s + "\nx\n"
		if d, f := ass.Parse([]byte(s)); f != want || !sameDoc(d, doc(low(1, 2, "a"))) {
			t.Errorf("Parse(%.60q): %+v, %v; want %v", s, d, f, want)
		}
	}
}

// TestFaultsOfOrders: P1703, 4: which fault comes first hangs on no order of fields; each is told at its part.
func TestFaultsOfOrders(t *testing.T) {
	const fields = "Name,Layer,End,x,Start,Text"
	long, name := strings.Repeat("x", 4097), strings.Repeat("n", 65)
	for _, x := range []struct {
		s   string
		e   api.Errno
		col int
	}{
		{name + ",8,x,,y," + long, api.ErrTime, 82},
		{name + ",8,x,,0:00:02.00," + long, api.ErrTime, 79},
		{name + ",8,0:00:01.00,,0:00:02.00," + long, api.ErrBack, 1},
		{name + ",8,0:00:02.00,,0:00:01.00," + long, api.ErrLane, 77},
		{name + ",7,0:00:02.00,,0:00:01.00," + long, api.ErrName, 11},
		{"é,7,0:00:02.00,\xff\xff,0:00:01.00," + long, api.ErrLong, 40},
		{"é,7,0:00:02.00,\xff\xff,0:00:01.00", api.ErrLine, 1},
	} {
		d, f := ass.Parse([]byte("[Script Info]\n[Events]\nFormat: " + fields + "\nDialogue: " + x.s))
		if f != (api.Fault{Err: x.e, Line: 4, Col: x.col}) || len(d.Cues) != 0 {
			t.Errorf("%.60q: %+v, %v; want %v at %d", x.s, d, f, x.e, x.col)
		}
	}
}

// TestOrder: P1703, P11: cues behind one another.
func TestOrder(t *testing.T) {
	for s, want := range map[string]api.Errno{
		"0:00:02.00,0:00:04.00,":                             api.OK,
		"0:00:02.00,0:00:04.01,":                             api.OK,
		"0:00:02.01,0:00:02.02,":                             api.OK,
		"99:59:59.99,100:00:00.00,":                          api.OK,
		"0:00:02.00,0:00:03.99,":                             api.ErrOrder,
		"0:00:01.99,0:59:00.00,":                             api.ErrOrder,
		"0:00:00.00,0:00:09.00,b":                            api.ErrOrder,
		"0:00:00.00,0:00:09.00," + strings.Repeat("x", 4097): api.ErrOrder,
		"0:00:01.00,0:00:01.00,":                             api.ErrBack,
		"0:00:01.00,0:00:00.00,":                             api.ErrBack,
		"0:00:01.00,100:00:00.01,":                           api.ErrTime,
		"0:00:01.00,0:00:00.00":                              api.ErrLine,
	} {
		d, f := ass.Parse([]byte(few + "Dialogue: 0:00:01.00,0:00:02.00,\nDialogue: 0:00:02.00,0:00:04.00,a\n[x]\n[Events]\nDialogue: " + s))
		if f.Err != want || want != api.OK && f.Line != 8 || want == api.ErrOrder && f.Col != 1 {
			t.Errorf("%.40q: %v; want %v", s, f, want)
		}
		cues := 2
		if want == api.OK {
			cues = 3
		}
		if len(d.Cues) != cues || !sameDoc(doc(d.Cues[:2]...), doc(low(1, 2, ""), low(2, 4, "a"))) {
			t.Errorf("%.40q: %+v", s, d)
		}
	}
}

// TestMany: P1703, P11: as many cues as may be, and one more; the faults of its times come ahead, those of its other parts behind.
func TestMany(t *testing.T) {
	b, _, err := ass.Write(times(4096, low(1, 2, "a")))
	if err != nil {
		t.Fatal(err)
	}
	const line = 4096 + 6
	for s, want := range map[string]api.Fault{
		"":              {},
		"\n;\r\n[x]\ny": {},
		"Comment: x,y":  {},
		"Dialogue: 0,0:00:01.00,0:00:02.00,,,,,,,":                                 {Err: api.ErrMany, Line: line, Col: 1},
		"\nDialogue: 0,0:00:01.00,0:00:02.00,,,,,,,a":                              {Err: api.ErrMany, Line: line + 1, Col: 1},
		"Dialogue: 8,0:00:01.00,0:00:02.00,,\x00,,,,," + strings.Repeat("x", 4097): {Err: api.ErrMany, Line: line, Col: 1},
		"Dialogue: 0,0:00:01.00,0:00:01.99,,,,,,,":                                 {Err: api.ErrOrder, Line: line, Col: 1},
		"Dialogue: 0,0:00:01.00,0:00:01.00,,,,,,,":                                 {Err: api.ErrBack, Line: line, Col: 1},
		"Dialogue: 0,0:00:01.00,100:00:00.01,,,,,,,":                               {Err: api.ErrTime, Line: line, Col: 24},
		"Dialogue: 0,0:00:01.00,0:00:02.00,,,,,,":                                  {Err: api.ErrLine, Line: line, Col: 1},
	} {
		if d, f := ass.Parse([]byte(string(b) + s)); f != want || len(d.Cues) != 4096 {
			t.Errorf("%.60q: %d, %v; want %v", s, len(d.Cues), f, want)
		}
	}
}
