package frm_test

import (
	"errors"
	"slices"
	"strings"
	"testing"

	"surtitle/api"
	"surtitle/cue"
	"surtitle/frm"
)

func r(n, d int64) api.Ratio { return api.Ratio{N: n, D: d} }

func whole(n int64) api.Ratio { return r(n, 1) }

// at is a cue of these times.
func at(from, to api.Ratio, s string, spans ...api.Span) api.Cue {
	return api.Cue{Start: from, End: to, Text: api.Text{S: s, Spans: spans}}
}

// low is a cue of whole seconds.
func low(from, to int64, s string, spans ...api.Span) api.Cue {
	return at(whole(from), whole(to), s, spans...)
}

// but is a cue of which something is another thing.
func but(x api.Cue, turn func(*api.Cue)) api.Cue {
	turn(&x)
	return x
}

func doc(l ...api.Cue) api.Doc { return api.Doc{Cues: l} }

// times is a document of the same cue, so many times.
func times(n int, x api.Cue) api.Doc { return doc(slices.Repeat([]api.Cue{x}, n)...) }

func sameCue(x, y api.Cue) bool {
	return x.Start == y.Start && x.End == y.End && x.Lane == y.Lane && x.Side == y.Side && x.Name == y.Name &&
		x.Text.S == y.Text.S && slices.Equal(x.Text.Spans, y.Text.Spans)
}

func sameDoc(x, y api.Doc) bool { return slices.EqualFunc(x.Cues, y.Cues, sameCue) }

// wrong is what an error should be; OK: none.
type wrong struct {
	cue int
	e   api.Errno
}

// is tells whether an error is that one.
func (f wrong) is(err error) bool {
	if f.e == api.OK {
		return err == nil
	}
	w, ok := err.(*cue.Wrong)
	return ok && w != nil && *w == cue.Wrong{Cue: f.cue, Err: f.e}
}

func bold(from, to int) api.Span   { return api.Span{From: from, To: to, Kind: api.KBold} }
func italic(from, to int) api.Span { return api.Span{From: from, To: to, Kind: api.KItalic} }
func strike(from, to int) api.Span { return api.Span{From: from, To: to, Kind: api.KStrike} }
func colour(from, to, value int) api.Span {
	return api.Span{From: from, To: to, Kind: api.KColour, Value: value}
}

// Rates.
var (
	slow  = api.Rate{Num: 1, Den: 1}
	film  = api.Rate{Num: 24, Den: 1}
	pal   = api.Rate{Num: 25, Den: 1}
	tape  = api.Rate{Num: 24000, Den: 1001}
	drop  = api.Rate{Num: 30000, Den: 1001, Drop: true}
	twice = api.Rate{Num: 60000, Den: 1001, Drop: true}
	fast  = api.Rate{Num: 240, Den: 1}
	fine  = api.Rate{Num: 239999, Den: 1000}
)

// noRates are some that are none.
func noRates() []api.Rate {
	return []api.Rate{
		{}, {Num: 24}, {Den: 1}, {Num: -24, Den: 1}, {Num: 24, Den: -1}, {Num: -24, Den: -1}, {Num: 50, Den: 2}, {Num: 1, Den: 2},
		{Num: 241, Den: 1}, {Num: 25, Den: 1, Drop: true}, {Num: 30, Den: 1, Drop: true}, {Num: 24000, Den: 1001, Drop: true},
		{Num: 240001, Den: 1001}, {Num: 1003, Den: 1002}, {Num: 1 << 62, Den: 1 << 62},
	}
}

// TestCan: P1601.
func TestCan(t *testing.T) {
	for rate, grid := range map[api.Rate]api.Ratio{
		slow:  whole(1),
		film:  r(1, 24),
		pal:   r(1, 25),
		tape:  r(1001, 24000),
		drop:  r(1001, 30000),
		twice: r(1001, 60000),
		fast:  r(1, 240),
		fine:  r(1000, 239999),
	} {
		if can, e := frm.Can(rate); e != api.OK || can != (api.Can{Dialect: api.DPipe, Grid: grid, Blank: true}) {
			t.Errorf("Can(%v): %+v, %v", rate, can, e)
		}
	}
	for _, rate := range noRates() {
		if can, e := frm.Can(rate); e != api.ErrRate || can != (api.Can{}) {
			t.Errorf("Can(%v): %+v, %v", rate, can, e)
		}
	}
}

// TestKeep: P1601.
func TestKeep(t *testing.T) {
	all := but(at(r(1, 3), r(2, 3), "a\x00\n\n<{b", bold(0, 1), strike(0, 3)), func(x *api.Cue) { x.Lane, x.Side, x.Name = 7, api.High, "Ann" })
	for n, x := range []struct {
		d    api.Doc
		rate api.Rate
		want api.Doc
		lost []api.Loss
	}{
		{doc(), pal, doc(), nil},
		{doc(low(1, 2, "Hi")), pal, doc(low(1, 2, "Hi")), nil},
		{doc(low(0, 1, ""), all), pal, doc(low(0, 1, ""), at(r(8, 25), r(17, 25), "a \n\n<\uff5bb", strike(0, 3))), []api.Loss{
			{Cue: 1, Kind: api.LTime, N: 1}, {Cue: 1, Kind: api.LLane, N: 1}, {Cue: 1, Kind: api.LSide, N: 1},
			{Cue: 1, Kind: api.LName, N: 1}, {Cue: 1, Kind: api.LSign, N: 2}, {Cue: 1, Kind: api.LStyle, N: 1}}},
		{doc(low(0, 1, "|{\\}&<>")), film, doc(low(0, 1, "\uff5c\uff5b\\\uff5d&<>")), []api.Loss{{Kind: api.LSign, N: 3}}},
		// blank lines are said
		{doc(low(0, 1, "\n\na\n\n")), film, doc(low(0, 1, "\n\na\n\n")), nil},
		// a look of a whole line, its end too, is said
		{doc(low(0, 1, "ab\nc", bold(0, 3))), film, doc(low(0, 1, "ab\nc", bold(0, 3))), nil},
		{doc(low(0, 1, "ab\nc", bold(0, 2))), film, doc(low(0, 1, "ab\nc")), []api.Loss{{Kind: api.LStyle, N: 2}}},
		// of whole seconds only each 1001st is a frame's beginning by this rate
		{doc(low(1001, 1002, "")), tape, doc(at(whole(1001), r(1002001, 1000), "")), []api.Loss{{Kind: api.LTime, N: 1}}},
	} {
		got, lost, err := frm.Keep(x.d, x.rate)
		if err != nil || !sameDoc(got, x.want) || !slices.Equal(lost, x.lost) {
			t.Errorf("%d: Keep: %+v, %v, %v; want %+v, %v", n, got, lost, err, x.want, x.lost)
		}
	}
}

// TestWrite: P1602 and the example 4.
func TestWrite(t *testing.T) {
	late := []api.Loss{{Kind: api.LTime, N: 1}}
	for n, x := range []struct {
		d    api.Doc
		rate api.Rate
		want string
		lost []api.Loss
	}{
		{doc(), pal, "{1}{1}25\n", nil},
		{doc(), tape, "{1}{1}24000/1001\n", nil},
		{doc(), drop, "{1}{1}30000/1001d\n", nil},
		{doc(), slow, "{1}{1}1\n", nil},
		{doc(low(1, 2, "Hi\nthere", italic(0, 3))), pal, "{1}{1}25\n{25}{50}{y:i}Hi|there\n", nil},
		{doc(at(r(1, 100), r(1, 50), "a|b")), film, "{1}{1}24\n{0}{1}a\uff5cb\n", []api.Loss{{Kind: api.LTime, N: 1}, {Kind: api.LSign, N: 1}}},
		{doc(low(0, 1, "")), film, "{1}{1}24\n{0}{24}\n", nil},
		{doc(low(0, 1, "a"), low(0, 1, ""), low(3, 4, "b")), film, "{1}{1}24\n{0}{24}a\n{0}{24}\n{72}{96}b\n", nil},
		{doc(at(r(1001, 24000), r(1001, 1000), "x")), tape, "{1}{1}24000/1001\n{1}{24}x\n", nil},
		{doc(at(r(1001, 30000), r(3003, 50), "x")), drop, "{1}{1}30000/1001d\n{1}{1800}x\n", nil},
		// line ends wherever they stand, and looks of lines
		{doc(low(0, 1, "\n\n")), film, "{1}{1}24\n{0}{24}||\n", nil},
		{doc(low(0, 1, "\na\n", bold(0, 3), colour(1, 3, 0x0000FE))), film, "{1}{1}24\n{0}{24}{y:b}|{y:b}{c:$FE0000}a|\n", nil},
		// bytes that are no signs, blanks, line ends of a file that are none of a text
		{doc(low(0, 1, " \xc3\n\xa9\xff ")), film, "{1}{1}24\n{0}{24} \xc3|\xa9\xff \n", nil},
		{doc(low(0, 1, "a\rb\r\n")), film, "{1}{1}24\n{0}{24}a b |\n", []api.Loss{{Kind: api.LSign, N: 2}}},
		// what looks like a part of a file is a text like any other
		{doc(low(0, 1, "{1}{2}{y:b}")), slow, "{1}{1}1\n{0}{1}\uff5b1\uff5d\uff5b2\uff5d\uff5by:b\uff5d\n", []api.Loss{{Kind: api.LSign, N: 6}}},
		{doc(low(0, 1, "\ufeff")), slow, "{1}{1}1\n{0}{1}\ufeff\n", nil},
		// the ends of time
		{doc(low(359999, 360000, "x")), fast, "{1}{1}240\n{86399760}{86400000}x\n", nil},
		{doc(at(r(35999999, 100), whole(360000), "x")), tape, "{1}{1}24000/1001\n{8631367}{8631368}x\n", late},
		{doc(at(r(1, 1<<20), r(1, 1<<19), "x")), fast, "{1}{1}240\n{0}{1}x\n", late},
		// halves go up
		{doc(at(r(1, 50), r(3, 50), "x")), pal, "{1}{1}25\n{1}{2}x\n", late},
		// cues that stand in another order once they are kept
		{doc(at(r(1, 1000), whole(9), "long"), at(r(1, 500), whole(5), "short")), slow, "{1}{1}1\n{0}{5}short\n{0}{9}long\n",
			[]api.Loss{{Cue: 0, Kind: api.LTime, N: 1}, {Cue: 1, Kind: api.LTime, N: 1}}},
		{doc(but(low(0, 1, "a"), func(x *api.Cue) { x.Lane, x.Side, x.Name = 1, api.High, "Ann" })), slow, "{1}{1}1\n{0}{1}a\n",
			[]api.Loss{{Kind: api.LLane, N: 1}, {Kind: api.LSide, N: 1}, {Kind: api.LName, N: 1}}},
	} {
		got, lost, err := frm.Write(x.d, x.rate)
		if err != nil || string(got) != x.want || !slices.Equal(lost, x.lost) {
			t.Errorf("%d: Write: %q, %v, %v; want %q, %v", n, got, lost, err, x.want, x.lost)
		}
	}
}

// wide is a document whose file would have so many bytes, by film.
func wide(size int) api.Doc {
	const top, head, many = len("{1}{1}24\n"), len("{24}{48}\n"), 2000
	size -= top
	each := size/many - head
	d := times(many-1, low(1, 2, strings.Repeat("x", each)))
	d.Cues = append(d.Cues, low(1, 3, strings.Repeat("y", size-(many-1)*(each+head)-head)))
	return d
}

// TestWriteLong: P1602: a file of as many bytes as may be, and of one more; there and back (P1604).
func TestWriteLong(t *testing.T) {
	d := wide(1 << 22)
	b, lost, err := frm.Write(d, film)
	if err != nil || len(b) != 1<<22 || len(lost) != 0 {
		t.Fatal(len(b), lost, err)
	}
	if back, rate, f := frm.Parse(b); f != (api.Fault{}) || rate != film || !sameDoc(back, d) {
		t.Error(len(back.Cues), rate, f)
	}
	for _, d := range []api.Doc{
		wide(1<<22 + 1),
		// what is lost is told of no file
		times(4096, low(0, 1, strings.Repeat("x", 1100)+"\x00")),
		// look-alikes are longer than the signs for which they stand
		times(4096, low(0, 1, strings.Repeat("|", 350))),
		// so are forms
		times(4096, low(0, 1, strings.Repeat("\n", 100), colour(0, 100, 1))),
	} {
		b, lost, err := frm.Write(d, film)
		if !(wrong{0, api.ErrLong}).is(err) || len(b) != 0 || len(lost) != 0 {
			t.Error(len(b), lost, err)
		}
	}
	// The rate's line counts as the others do.
	d = wide(1 << 22)
	if b, _, err := frm.Write(d, api.Rate{Num: 24001, Den: 1000}); !(wrong{0, api.ErrLong}).is(err) || len(b) != 0 {
		t.Error(len(b), err)
	}
}

// TestNotRight: P1601, P1602: cue.Keep's errors are those of both calls, ahead of ErrLong.
func TestNotRight(t *testing.T) {
	long := times(4000, low(0, 1, strings.Repeat("x", 1100))).Cues
	for n, x := range []struct {
		d api.Doc
		f wrong
	}{
		{doc(low(1, 1, "")), wrong{0, api.ErrBack}},
		{doc(low(0, 1, ""), low(-1, 1, "")), wrong{1, api.ErrTime}},
		{doc(low(0, 1, ""), low(0, api.MaxTime+1, "")), wrong{1, api.ErrTime}},
		{doc(at(r(2, 4), whole(1), "")), wrong{0, api.ErrWide}},
		{doc(low(2, 3, ""), low(1, 5, "")), wrong{1, api.ErrOrder}},
		{doc(but(low(0, 1, ""), func(x *api.Cue) { x.Lane = 8 })), wrong{0, api.ErrLane}},
		{doc(but(low(0, 1, ""), func(x *api.Cue) { x.Side = 2 })), wrong{0, api.ErrLane}},
		{doc(but(low(0, 1, ""), func(x *api.Cue) { x.Name = "\n" })), wrong{0, api.ErrName}},
		{doc(low(0, 1, "a", bold(0, 2))), wrong{0, api.ErrSpan}},
		{doc(low(0, 1, strings.Repeat("x", 4097))), wrong{0, api.ErrLong}},
		{times(4097, low(0, 1, "")), wrong{0, api.ErrMany}},
		// look-alikes make a text too long
		{doc(low(0, 1, ""), low(0, 1, strings.Repeat("|", 1366))), wrong{1, api.ErrLong}},
		{doc(low(0, 1, ""), low(0, 1, strings.Repeat("|", 1365))), wrong{}},
		// ahead of a file that would be too long
		{doc(append(long, low(1, 1, ""))...), wrong{4000, api.ErrBack}},
		{doc(append(long, low(1, 2, strings.Repeat("x", 4097)))...), wrong{4000, api.ErrLong}},
	} {
		d, lost, err := frm.Keep(x.d, film)
		if !x.f.is(err) || err != nil && (len(d.Cues) != 0 || len(lost) != 0) {
			t.Errorf("%d: Keep: %+v, %v, %v; want %v", n, d, lost, err, x.f)
		}
		b, lost, err := frm.Write(x.d, film)
		if !x.f.is(err) || err != nil && (len(b) != 0 || len(lost) != 0) {
			t.Errorf("%d: Write: %q, %v, %v; want %v", n, b, lost, err, x.f)
		}
	}
	_, _, err := frm.Write(doc(low(0, 1, ""), low(1, 1, "")), film)
	if err == nil || err.Error() != "cue 1: back" || !errors.Is(err, api.ErrBack) {
		t.Error(err)
	}
}

// TestNoRate: P1601, P1602: ErrRate comes ahead of the document's errors.
func TestNoRate(t *testing.T) {
	for _, rate := range noRates() {
		for _, d := range []api.Doc{doc(), doc(low(0, 1, "a")), doc(low(0, 1, ""), low(1, 1, "")), times(4097, low(0, 1, "")), wide(1<<22 + 1)} {
			kept, lost, err := frm.Keep(d, rate)
			if !(wrong{0, api.ErrRate}).is(err) || len(kept.Cues) != 0 || len(lost) != 0 {
				t.Errorf("%v: Keep: %v, %v, %v", rate, kept, lost, err)
			}
			b, lost, err := frm.Write(d, rate)
			if !(wrong{0, api.ErrRate}).is(err) || len(b) != 0 || len(lost) != 0 {
				t.Errorf("%v: Write: %q, %v, %v", rate, b, lost, err)
			}
		}
	}
}

// TestParse: P1603 and the example 1: files without faults.
func TestParse(t *testing.T) {
	const head = "{1}{1}25\n"
	a := low(1, 2, "a")
	for s, want := range map[string]api.Doc{
		"{1}{1}25":                               doc(),
		head:                                     doc(),
		"{1}{1}25\r\n":                           doc(),
		"{1}{1}25\r":                             doc(),
		"{1}{1}25\n\n\r\n\r\r\n":                 doc(),
		"\ufeff{1}{1}25":                         doc(),
		"\ufeff" + head + "{25}{50}a":            doc(a),
		head + "{25}{50}a":                       doc(a),
		head + "{25}{50}a\n":                     doc(a),
		head + "{25}{50}a\n\n\n\n":               doc(a),
		head + "\n\r\r\n{25}{50}a":               doc(a),
		head + "{25}{50}":                        doc(low(1, 2, "")),
		head + "{25}{50}\n{25}{50}":              doc(low(1, 2, ""), low(1, 2, "")),
		head + "{25}{50}a\n{25}{50}\n\n{25}{75}": doc(a, low(1, 2, ""), low(1, 3, "")),
		head + "{0}{1}x":                         doc(at(whole(0), r(1, 25), "x")),
		head + "{000000000}{000000001}x":         doc(at(whole(0), r(1, 25), "x")),
		head + "{000000025}{050}a":               doc(a),
		head + "{8999999}{9000000}x":             doc(at(r(8999999, 25), whole(360000), "x")),
		head + "{8999999}{009000000}x":           doc(at(r(8999999, 25), whole(360000), "x")),
		"{1}{1}25\r{25}{50}a\r{25}{50}a\r":       doc(a, a),
		"{1}{1}25\r\n{25}{50}a\r\n{25}{50}a":     doc(a, a),
		// the example 1
		head + "{25}{50}{y:i}Hi|there": doc(low(1, 2, "Hi\nthere", italic(0, 3))),
		// texts: all that stands behind the second brace
		head + "{25}{50} a ":                          doc(low(1, 2, " a ")),
		head + "{25}{50}{75}a":                        doc(low(1, 2, "{75}a")),
		head + "{25}{50}}a":                           doc(low(1, 2, "}a")),
		head + "{25}{50}{":                            doc(low(1, 2, "{")),
		head + "{25}{50}1":                            doc(low(1, 2, "1")),
		head + "{25}{50}\ufeffa":                      doc(low(1, 2, "\ufeffa")),
		head + "{25}{50}\x00\xff\xc3|\xa9\t":          doc(low(1, 2, "\x00\xff\xc3\n\xa9\t")),
		head + "{25}{50}|":                            doc(low(1, 2, "\n")),
		head + "{25}{50}||a|":                         doc(low(1, 2, "\n\na\n")),
		head + "{25}{50}{y:b}":                        doc(low(1, 2, "")),
		head + "{25}{50}{y:b,s}{c:$0000FF}a|b":        doc(low(1, 2, "a\nb", bold(0, 2), strike(0, 2), colour(0, 2, 0xFF0000))),
		head + "{25}{50}a{y:b}|{y:x}":                 doc(low(1, 2, "a{y:b}\n{y:x}")),
		head + "{25}{50}<b>&lt;\\N{\\b1}":             doc(low(1, 2, "<b>&lt;\\N{\\b1}")),
		head + "{25}{50}" + strings.Repeat("x", 4096): doc(low(1, 2, strings.Repeat("x", 4096))),
		head + "{25}{50}" + strings.Repeat("|", 4096): doc(low(1, 2, strings.Repeat("\n", 4096))),
	} {
		if d, rate, f := frm.Parse([]byte(s)); f != (api.Fault{}) || rate != pal || !sameDoc(d, want) {
			t.Errorf("Parse(%q): %+v, %v, %v; want %+v", s, d, rate, f, want)
		}
	}
}

// TestRates: P1603, 1: the rate is told, whatever stands behind, and frames are by it.
func TestRates(t *testing.T) {
	for s, x := range map[string]struct {
		rate api.Rate
		one  api.Ratio // the frame 1
	}{
		"1":           {slow, whole(1)},
		"24":          {film, r(1, 24)},
		"25":          {pal, r(1, 25)},
		"240":         {fast, r(1, 240)},
		"24000/1001":  {tape, r(1001, 24000)},
		"30000/1001d": {drop, r(1001, 30000)},
		"60000/1001d": {twice, r(1001, 60000)},
		"239999/1000": {fine, r(1000, 239999)},
		"3/2":         {api.Rate{Num: 3, Den: 2}, r(2, 3)},
	} {
		for behind, want := range map[string]api.Fault{
			"":                                 {},
			"\n\n":                             {},
			"\r{0}{1}a\r":                      {},
			"\nx":                              {Err: api.ErrLine, Line: 2, Col: 1},
			"\n\n{1}{0}":                       {Err: api.ErrBack, Line: 3, Col: 1},
			"\r\n{0}{1}a\r\n{0}{1}\r\nx":       {Err: api.ErrLine, Line: 4, Col: 1},
			"\n{0}{1}a\n{999999999}{}":         {Err: api.ErrLine, Line: 3, Col: 1},
			"\n{0}{1}a\n{999999999}{1}":        {Err: api.ErrTime, Line: 3, Col: 2},
			"\n{0}{1}a\n{1}{999999999}":        {Err: api.ErrTime, Line: 3, Col: 5},
			"\n" + strings.Repeat("\n", 1<<22): {Err: api.ErrLong, Line: 1<<22 - len(s) - 5, Col: 1},
		} {
			d, rate, f := frm.Parse([]byte("{1}{1}" + s + behind))
			if f != want || rate != x.rate {
				t.Errorf("%q, %.40q: %v, %v; want %v, %v", s, behind, rate, f, x.rate, want)
			}
			if strings.Contains(behind, "a") != (len(d.Cues) > 0) || len(d.Cues) > 0 && !sameCue(d.Cues[0], at(whole(0), x.one, "a")) {
				t.Errorf("%q, %.40q: %+v", s, behind, d)
			}
		}
	}
}

// TestHead: P1603, 1, and the example 2.
func TestHead(t *testing.T) {
	for s, e := range map[string]api.Errno{
		"":                      api.ErrHead,
		"\n":                    api.ErrHead,
		"\r\n{1}{1}25":          api.ErrHead,
		"\ufeff":                api.ErrHead,
		"\ufeff\n{1}{1}25":      api.ErrHead,
		"\ufeff\ufeff{1}{1}25":  api.ErrHead,
		"\xef\xbb{1}{1}25":      api.ErrHead,
		"{0}{1}25":              api.ErrHead,
		"{1}{0}25":              api.ErrHead,
		"{01}{1}25":             api.ErrHead,
		"{1}{01}25":             api.ErrHead,
		" {1}{1}25":             api.ErrHead,
		"{1} {1}25":             api.ErrHead,
		"{1}{1":                 api.ErrHead,
		"{1}\n{1}25":            api.ErrHead,
		"25":                    api.ErrHead,
		"x\n{1}{1}25":           api.ErrHead,
		"{25}{50}a":             api.ErrHead,
		"{1}{1}":                api.ErrRate,
		"\ufeff{1}{1}":          api.ErrRate,
		"{1}{1}\n25":            api.ErrRate,
		"{1}{1}\r\n{25}{50}a":   api.ErrRate,
		"{1}{1}50/2":            api.ErrRate,
		"{1}{1}25/1":            api.ErrRate,
		"{1}{1}025":             api.ErrRate,
		"{1}{1}0":               api.ErrRate,
		"{1}{1}241":             api.ErrRate,
		"{1}{1}25d":             api.ErrRate,
		"{1}{1}24000/1001d":     api.ErrRate,
		"{1}{1} 25":             api.ErrRate,
		"{1}{1}25 ":             api.ErrRate,
		"{1}{1}25.0":            api.ErrRate,
		"{1}{1}-25":             api.ErrRate,
		"{1}{1}{1}25":           api.ErrRate,
		"{1}{1}x\n{25}{50}a":    api.ErrRate,
		"{1}{1}\ufeff25":        api.ErrRate,
		"{1}{1}\xff":            api.ErrRate,
		"{1}{1}25\x00\n{0}{1}a": api.ErrRate,
	} {
		want := api.Fault{Err: e, Line: 1, Col: 1}
		if e == api.ErrRate {
			want.Col = 7
		}
		if d, rate, f := frm.Parse([]byte(s)); f != want || rate != (api.Rate{}) || len(d.Cues) != 0 {
			t.Errorf("Parse(%q): %+v, %v, %v; want %v", s, d, rate, f, want)
		}
	}
}

// TestFaults: P1603, 2 to 4, and the example 3: each fault of a line, its place, and the cues ahead of it.
func TestFaults(t *testing.T) {
	long, many := strings.Repeat("x", 4097), strings.Repeat("{y:b}x|y|", 257)
	for _, x := range []struct {
		s   string
		e   api.Errno
		col int
	}{
		{"x", api.ErrLine, 1},
		{" ", api.ErrLine, 1},
		{"\ufeff", api.ErrLine, 1},
		{"\ufeff{24}{48}a", api.ErrLine, 1},
		{"\xff\x00", api.ErrLine, 1},
		{"{", api.ErrLine, 1},
		{"{}", api.ErrLine, 1},
		{"{24", api.ErrLine, 1},
		{"{24}", api.ErrLine, 1},
		{"{48}x", api.ErrLine, 1},
		{"{24}{", api.ErrLine, 1},
		{"{24}{48", api.ErrLine, 1},
		{"{24}48}a", api.ErrLine, 1},
		{"24}{48}a", api.ErrLine, 1},
		{"{}{48}a", api.ErrLine, 1},
		{"{24}{}a", api.ErrLine, 1},
		{"{24} {48}a", api.ErrLine, 1},
		{" {24}{48}a", api.ErrLine, 1},
		{"{ 24}{48}a", api.ErrLine, 1},
		{"{24}{48 }a", api.ErrLine, 1},
		{"{+24}{48}a", api.ErrLine, 1},
		{"{24}{-48}a", api.ErrLine, 1},
		{"{24}{4 8}a", api.ErrLine, 1},
		{"{24}{48x}a", api.ErrLine, 1},
		{"{0x18}{48}a", api.ErrLine, 1},
		{"{24}}{48}a", api.ErrLine, 1},
		{"{{24}{48}a", api.ErrLine, 1},
		{"{24}{{48}a", api.ErrLine, 1},
		{"[24][48]a", api.ErrLine, 1},
		{"{24}(48)a", api.ErrLine, 1},
		{"{2\xff4}{48}a", api.ErrLine, 1},
		{"{\u0662}{48}a", api.ErrLine, 1},
		{"{24}{\uff14}a", api.ErrLine, 1},
		{"{0000000024}{48}a", api.ErrLine, 1},
		{"{24}{0000000048}a", api.ErrLine, 1},
		{"{9999999999}{1}a", api.ErrLine, 1},
		{"{" + strings.Repeat("9", 30) + "}{1}a", api.ErrLine, 1},
		{"{y:b}a", api.ErrLine, 1},
		{"{999999999}{x}", api.ErrLine, 1},
		{"{999999999}x", api.ErrLine, 1},
		{"{8640001}{8640002}x", api.ErrTime, 2},
		{"{999999999}{999999999}x", api.ErrTime, 2},
		{"{999999999}{1}x", api.ErrTime, 2},
		{"{8640001}{0}" + long, api.ErrTime, 2},
		{"{48}{99999999}x", api.ErrTime, 6},
		{"{8640000}{8640001}x", api.ErrTime, 11},
		{"{0}{8640001}x", api.ErrTime, 5},
		{"{000000048}{008640001}x", api.ErrTime, 13},
		{"{24}{999999999}" + long, api.ErrTime, 6},
		{"{48}{24}x", api.ErrBack, 1},
		{"{48}{48}", api.ErrBack, 1},
		{"{0}{0}" + long, api.ErrBack, 1},
		{"{8640000}{8640000}", api.ErrBack, 1},
		{"{23}{22}", api.ErrBack, 1},
		{"{24}{48}" + long, api.ErrLong, 9},
		{"{024}{0048}" + long, api.ErrLong, 12},
		{"{000000024}{000000048}" + long, api.ErrLong, 23},
		{"{24}{48}a|" + strings.Repeat("\xff|", 2048), api.ErrLong, 9},
		{"{24}{48}" + many, api.ErrMany, 9},
		{"{24}{100}" + many, api.ErrMany, 10},
	} {
		want := api.Fault{Err: x.e, Line: 2, Col: x.col}
		if d, rate, f := frm.Parse([]byte("{1}{1}24\n" + x.s)); f != want || rate != film || len(d.Cues) != 0 {
			t.Errorf("Parse(%.60q): %+v, %v, %v; want %v", x.s, d, rate, f, want)
		}
		// With a cue ahead of it that stands whole, and a line behind it.
		want.Line += 2
		s := "{1}{1}24\n{24}{48}a\n\n" + x.s + "\nx\n"
		if d, rate, f := frm.Parse([]byte(s)); f != want || rate != film || !sameDoc(d, doc(low(1, 2, "a"))) {
			t.Errorf("Parse(%.60q): %+v, %v, %v; want %v", s, d, rate, f, want)
		}
	}
}

// TestOrder: P1603, P11 and the example 3: cues behind one another.
func TestOrder(t *testing.T) {
	for s, want := range map[string]api.Errno{
		"{48}{96}":                            api.OK,
		"{48}{97}":                            api.OK,
		"{49}{50}":                            api.OK,
		"{8639999}{8640000}":                  api.OK,
		"{48}{95}":                            api.ErrOrder,
		"{47}{999}":                           api.ErrOrder,
		"{0}{99}b":                            api.ErrOrder,
		"{0}{99}" + strings.Repeat("x", 4097): api.ErrOrder,
		"{24}{24}":                            api.ErrBack,
		"{24}{0}":                             api.ErrBack,
		"{24}{9999999}":                       api.ErrTime,
		"{24}{9x}":                            api.ErrLine,
	} {
		d, _, f := frm.Parse([]byte("{1}{1}24\n{24}{48}\n{48}{96}a\n\n" + s))
		if f.Err != want || want != api.OK && f.Line != 5 || want == api.ErrOrder && f.Col != 1 {
			t.Errorf("%.40q: %v; want %v", s, f, want)
		}
		cues := 2
		if want == api.OK {
			cues = 3
		}
		if len(d.Cues) != cues || !sameDoc(doc(d.Cues[:2]...), doc(low(1, 2, ""), low(2, 4, "a"))) {
			t.Errorf("%.40q: %+v", s, d)
		}
	}
}

// TestMany: P1603, P11: as many cues as may be, and one more; the other faults of its line's numbers come ahead, those of its text behind.
func TestMany(t *testing.T) {
	b, _, err := frm.Write(times(4096, low(1, 2, "a")), film)
	if err != nil {
		t.Fatal(err)
	}
	const line = 4096 + 2
	for s, want := range map[string]api.Fault{
		"":                                     {},
		"\n\r\n":                               {},
		"{24}{48}":                             {Err: api.ErrMany, Line: line, Col: 1},
		"\n{24}{48}a":                          {Err: api.ErrMany, Line: line + 1, Col: 1},
		"{24}{48}" + strings.Repeat("x", 4097): {Err: api.ErrMany, Line: line, Col: 1},
		"{24}{47}":                             {Err: api.ErrOrder, Line: line, Col: 1},
		"{24}{24}":                             {Err: api.ErrBack, Line: line, Col: 1},
		"{24}{8640001}":                        {Err: api.ErrTime, Line: line, Col: 6},
		"{24}{48":                              {Err: api.ErrLine, Line: line, Col: 1},
	} {
		if d, rate, f := frm.Parse([]byte(string(b) + s)); f != want || rate != film || len(d.Cues) != 4096 {
			t.Errorf("%.60q: %d, %v, %v; want %v", s, len(d.Cues), rate, f, want)
		}
	}
}
