package conv_test

import (
	"errors"
	"math"
	"runtime"
	"slices"
	"strings"
	"testing"
	"time"

	"surtitle/api"
	"surtitle/conv"
	"surtitle/cue"
)

func r(n, d int64) api.Ratio { return api.Ratio{N: n, D: d} }

func whole(n int64) api.Ratio { return r(n, 1) }

// at is a cue of these times.
func at(from, to api.Ratio, s string, spans ...api.Span) api.Cue {
	return api.Cue{Start: from, End: to, Text: api.Text{S: s, Spans: spans}}
}

// low is a cue of whole seconds.
func low(from, to int64, s string, spans ...api.Span) api.Cue {
	return at(whole(from), whole(to), s, spans...)
}

// by is a cue in a lane, on a side, with a name.
func by(x api.Cue, lane, side int, name string) api.Cue {
	x.Lane, x.Side, x.Name = lane, side, name
	return x
}

func doc(l ...api.Cue) api.Doc { return api.Doc{Cues: l} }

// times is a document of the same cue, so many times.
func times(n int, x api.Cue) api.Doc { return doc(slices.Repeat([]api.Cue{x}, n)...) }

func sameCue(x, y api.Cue) bool {
	return x.Start == y.Start && x.End == y.End && x.Lane == y.Lane && x.Side == y.Side && x.Name == y.Name &&
		x.Text.S == y.Text.S && slices.Equal(x.Text.Spans, y.Text.Spans)
}

func sameDoc(x, y api.Doc) bool { return slices.EqualFunc(x.Cues, y.Cues, sameCue) }

func bold(from, to int) api.Span   { return api.Span{From: from, To: to, Kind: api.KBold} }
func strike(from, to int) api.Span { return api.Span{From: from, To: to, Kind: api.KStrike} }

// film is a rate; tv is one that leaves numbers out; none is no rate.
var (
	film = api.Rate{Num: 24, Den: 1}
	tv   = api.Rate{Num: 30000, Den: 1001, Drop: true}
	none = api.Rate{}
)

// noFormats are numbers of none.
var noFormats = []int{0, 5, 6, -1, -4, math.MaxInt, math.MinInt, 1 << 32, 1<<32 + 1}

// wraps complains if an error is not one that wraps that number, and tells its word.
func wraps(t *testing.T, err error, e api.Errno) {
	t.Helper()
	var got api.Errno
	if err == nil || !errors.Is(err, e) || !errors.As(err, &got) || got != e || err.Error() != e.Error() {
		t.Errorf("%v; want %v", err, e)
	}
}

// wrapsWrong complains if an error does not wrap that of a cue, and tell its words.
func wrapsWrong(t *testing.T, err error, n int, e api.Errno) {
	t.Helper()
	var w *cue.Wrong
	if !errors.As(err, &w) || *w != (cue.Wrong{Cue: n, Err: e}) || !errors.Is(err, e) || err.Error() != w.Error() {
		t.Errorf("%v; want cue %d: %v", err, n, e)
	}
}

// TestOf: P1801: which formats there are, and which rates are looked at.
func TestOf(t *testing.T) {
	for _, n := range noFormats {
		for _, x := range []api.Rate{film, none} {
			if f, e := conv.Of(n, x); e != api.ErrKind || f != nil {
				t.Errorf("Of(%d): %v, %v", n, f, e)
			}
		}
	}
	bad := []api.Rate{none, {Num: 50, Den: 2}, {Num: 241, Den: 1}, {Num: 1, Den: 2}, {Num: 25, Den: 1, Drop: true}, {Num: -24, Den: -1}, {Num: math.MinInt, Den: math.MaxInt}}
	for _, x := range bad {
		if f, e := conv.Of(api.FFrm, x); e != api.ErrRate || f != nil {
			t.Errorf("Of(FFrm, %v): %v, %v", x, f, e)
		}
		for _, n := range []int{api.FSrt, api.FVtt, api.FAss} {
			if f, e := conv.Of(n, x); e != api.OK || f == nil {
				t.Errorf("Of(%d, %v): %v, %v", n, x, f, e)
			}
		}
	}
	for _, x := range []api.Rate{film, tv, {Num: 24000, Den: 1001}, {Num: 240, Den: 1}, {Num: 1, Den: 1}} {
		for n := api.FSrt; n <= api.FAss; n++ {
			if f, e := conv.Of(n, x); e != api.OK || f == nil {
				t.Errorf("Of(%d, %v): %v, %v", n, x, f, e)
			}
		}
	}
}

// TestFormats: P1801: what each format can say, writes and reads, said one by one.
func TestFormats(t *testing.T) {
	cans := map[int]api.Can{
		api.FSrt: {Dialect: api.DAngle, Grid: r(1, 1000)},
		api.FVtt: {Dialect: api.DVoice, Grid: r(1, 1000), Side: true, Name: true},
		api.FFrm: {Dialect: api.DPipe, Grid: r(1001, 30000), Blank: true},
		api.FAss: {Dialect: api.DBrace, Grid: r(1, 100), Lane: true, Side: true, Name: true, Blank: true},
	}
	files := map[int]string{
		api.FSrt: "1\n00:00:00,000 --> 00:00:01,001\n<b>a</b>\n\n",
		api.FVtt: "WEBVTT\n\n00:00:00.000 --> 00:00:01.001 line:0\n<v Ann><b>a</b>\n",
		api.FFrm: "{1}{1}30000/1001d\n{0}{30}{y:b}a\n",
		api.FAss: "[Script Info]\nScriptType: v4.00+\n\n[Events]\nFormat: Layer, Start, End, Style, Name, MarginL, MarginR, MarginV, Effect, Text\n" +
			"Dialogue: 2,0:00:00.00,0:00:01.00,Default,Ann,0,0,0,,{\\an8\\b1}a\n",
	}
	lost := map[int][]api.Loss{
		api.FSrt: {{Kind: api.LLane, N: 1}, {Kind: api.LSide, N: 1}, {Kind: api.LName, N: 1}},
		api.FVtt: {{Kind: api.LLane, N: 1}},
		api.FFrm: {{Kind: api.LLane, N: 1}, {Kind: api.LSide, N: 1}, {Kind: api.LName, N: 1}},
		api.FAss: {{Kind: api.LTime, N: 1}},
	}
	d := doc(by(at(whole(0), r(1001, 1000), "a", bold(0, 1)), 2, api.High, "Ann"))
	back := map[int]api.Doc{
		api.FSrt: doc(at(whole(0), r(1001, 1000), "a", bold(0, 1))),
		api.FVtt: doc(by(at(whole(0), r(1001, 1000), "a", bold(0, 1)), 0, api.High, "Ann")),
		api.FFrm: doc(at(whole(0), r(1001, 1000), "a", bold(0, 1))),
		api.FAss: doc(by(low(0, 1, "a", bold(0, 1)), 2, api.High, "Ann")),
	}
	for n := api.FSrt; n <= api.FAss; n++ {
		f, e := conv.Of(n, tv)
		if e != api.OK || f.Can() != cans[n] {
			t.Fatalf("%d: %v, %+v", n, e, f.Can())
		}
		b, gone, err := f.Write(d)
		if err != nil || string(b) != files[n] || !slices.Equal(gone, lost[n]) {
			t.Errorf("%d: %q, %v, %v", n, b, gone, err)
		}
		if got, fault := f.Parse(b); fault != (api.Fault{}) || !sameDoc(got, back[n]) {
			t.Errorf("%d: %+v, %v", n, got, fault)
		}
	}
	// A file of frames tells its rate: the other one is that at which it is written.
	f, _ := conv.Of(api.FFrm, film)
	for s, want := range map[string]api.Cue{"{1}{1}25\n{25}{50}a": low(1, 2, "a"), "{1}{1}30000/1001d\n{0}{30}a": at(whole(0), r(1001, 1000), "a"), "{1}{1}24\n{24}{48}a": low(1, 2, "a")} {
		if d, fault := f.Parse([]byte(s)); fault != (api.Fault{}) || !sameDoc(d, doc(want)) {
			t.Errorf("%q: %+v, %v", s, d, fault)
		}
	}
	if d, fault := f.Parse([]byte("{1}{1}25\n{25}{50}a\nx")); fault != (api.Fault{Err: api.ErrLine, Line: 3, Col: 1}) || !sameDoc(d, doc(low(1, 2, "a"))) {
		t.Error(d, fault)
	}
}

// TestGuess: P1802, and the example 1.
func TestGuess(t *testing.T) {
	many := strings.Repeat("7", api.MaxFile+5)
	for n, l := range map[int][]string{
		api.FSrt: {"1", "0", "9", "0123456789", "12345678901234567890123", "1\n", "1\r", "1\r\n", "1\nx", "1\rx", "1\r\nWEBVTT", many, many + "\nx"},
		api.FVtt: {"WEBVTT", "WEBVTT\n", "WEBVTT\r", "WEBVTT\r\nx", "WEBVTT\n1", "WEBVTT\r[", "WEBVTT\n\xff"},
		api.FFrm: {"{", "{1}{1}25", "{1}{1}25\n", "{x", "{[", "{WEBVTT", "{ ", "{1", "{\xff\r1"},
		api.FAss: {"[", "[Script Info]", "[Events]\n", "[x", "[{", "[1", "[ \r\n{", "[\xff\x00"},
	} {
		for _, s := range l {
			for _, mark := range []string{"", "\ufeff"} {
				if got, e := conv.Guess([]byte(mark + s)); got != n || e != api.OK {
					t.Errorf("%.30q: %d, %v; want %d", mark+s, got, e, n)
				}
			}
		}
	}
	for _, s := range []string{
		"", "\n", "\r", "\r\n", "x", " ", "\x00", "\xff", "\n1", "\r1", "\n\nWEBVTT", "\r\n[Script Info]", "\n{1}{1}25",
		"WEBVTT ", " WEBVTT", "WEBVTT x", "webvtt", "WEBVT", "WEBVTTT", "WEBVTT\t", "WEBVTT\x00",
		" [", "x[", " {", "x{", "}", "]", "(", "1 ", " 1", "1a", "a1", "-1", "+1", "1.5", "1,", "1\x00", "1\xff", "/", ":", "1/2", "1:2",
		"\u0661", "\uff11", "²", "1\u0661", many + "x", many + " ", many + "\x00\n1",
		"\ufeff\ufeff1", "\ufeff\ufeffWEBVTT", "\xef\xbb1", "\xef1", "\xbf{", "\xfe\xff[", "\ufeff\n1", "1\ufeff", "WEBVTT\ufeff", "\n\ufeff1", "\u200b1",
	} {
		for _, mark := range []string{"", "\ufeff"} {
			if mark != "" && strings.HasPrefix(s, "\ufeff") {
				continue
			}
			if got, e := conv.Guess([]byte(mark + s)); got != 0 || e != api.ErrHead {
				t.Errorf("%.30q: %d, %v", mark+s, got, e)
			}
		}
	}
	for _, s := range []string{"\ufeff", "\ufeff\ufeff"} {
		if got, e := conv.Guess([]byte(s)); got != 0 || e != api.ErrHead {
			t.Errorf("%q: %d, %v", s, got, e)
		}
	}
	if got, e := conv.Guess(nil); got != 0 || e != api.ErrHead {
		t.Error(got, e)
	}
}

// TestFailed: P1803: what failed, as words, and what it wraps.
func TestFailed(t *testing.T) {
	w := &cue.Wrong{Cue: 3, Err: api.ErrLong}
	other := errors.New("other words")
	for n, x := range []struct {
		f     conv.Failed
		words string
		wraps error
	}{
		{conv.Failed{}, "", nil},
		{conv.Failed{Fault: api.Fault{Line: 3, Col: 4}}, "", nil},
		{conv.Failed{Fault: api.Fault{Err: api.ErrLine, Line: 3, Col: 1}}, "line at 3:1", api.ErrLine},
		{conv.Failed{Fault: api.Fault{Err: api.ErrTime, Line: 1 << 22, Col: 18}}, "time at 4194304:18", api.ErrTime},
		{conv.Failed{Fault: api.Fault{Err: api.ErrHead}}, "head at 0:0", api.ErrHead},
		{conv.Failed{Fault: api.Fault{Err: api.ErrEnd, Line: -5, Col: math.MinInt}}, "end at -5:-9223372036854775808", api.ErrEnd},
		{conv.Failed{Fault: api.Fault{Err: 99, Line: 1, Col: 2}}, "error at 1:2", api.Errno(99)},
		{conv.Failed{Fault: api.Fault{Err: -1, Line: 1, Col: 2}}, "error at 1:2", api.Errno(-1)},
		{conv.Failed{Err: w}, "cue 3: long", w},
		{conv.Failed{Err: api.ErrKind}, "kind", api.ErrKind},
		{conv.Failed{Err: api.OK}, "ok", api.OK},
		{conv.Failed{Err: other}, "other words", other},
		{conv.Failed{Fault: api.Fault{Line: 3, Col: 4}, Err: w}, "cue 3: long", w},
		// the fault ahead of the error
		{conv.Failed{Fault: api.Fault{Err: api.ErrBack, Line: 2, Col: 1}, Err: w}, "back at 2:1", api.ErrBack},
	} {
		var err error = &x.f
		if err.Error() != x.words || x.f.Unwrap() != x.wraps {
			t.Errorf("%d: %q, %v; want %q, %v", n, err.Error(), x.f.Unwrap(), x.words, x.wraps)
		}
		if x.wraps != nil && !errors.Is(err, x.wraps) || x.f.Fault.Err != api.OK && errors.Is(err, w) {
			t.Errorf("%d: %v", n, err)
		}
	}
	within := &conv.Failed{Err: &conv.Failed{Err: w}}
	if within.Error() != "cue 3: long" || !errors.Is(within, api.ErrLong) || errors.Is(within, api.ErrLine) {
		t.Error(within)
	}
}

// refused complains if Convert answers something beside an error, or no error.
func refused(t *testing.T, s string, from, to int, x api.Rate) error {
	t.Helper()
	b, lost, err := conv.Convert([]byte(s), from, to, x)
	if err == nil || len(b) != 0 || len(lost) != 0 {
		t.Errorf("Convert(%.30q, %d, %d, %v): %.30q, %v, %v", s, from, to, x, b, lost, err)
	}
	return err
}

// TestConvertOf: P1803: the errors of both formats, from's ahead of to's, both ahead of the file's.
func TestConvertOf(t *testing.T) {
	for _, s := range []string{"", "x", "1\n00:00:01,000 --> 00:00:02,000\na\n"} {
		for _, n := range noFormats {
			for f := api.FSrt; f <= api.FAss; f++ {
				wraps(t, refused(t, s, n, f, film), api.ErrKind)
				wraps(t, refused(t, s, f, n, film), api.ErrKind)
			}
			wraps(t, refused(t, s, n, n, none), api.ErrKind)
			wraps(t, refused(t, s, n, api.FFrm, none), api.ErrKind)
			wraps(t, refused(t, s, api.FFrm, n, none), api.ErrRate)
			wraps(t, refused(t, s, api.FFrm, n, film), api.ErrKind)
		}
		for f := api.FSrt; f <= api.FAss; f++ {
			wraps(t, refused(t, s, api.FFrm, f, none), api.ErrRate)
			wraps(t, refused(t, s, f, api.FFrm, none), api.ErrRate)
		}
	}
	// Where no frames are asked for, the rate is not.
	for _, f := range []int{api.FSrt, api.FVtt, api.FAss} {
		if b, lost, err := conv.Convert([]byte("1\n00:00:01,000 --> 00:00:02,000\na\n"), api.FSrt, f, none); err != nil || len(b) == 0 || len(lost) != 0 {
			t.Error(f, lost, err)
		}
	}
}

// TestConvertFaults: P1803, and the example 2: a fault of the file, ahead of what can't be written.
func TestConvertFaults(t *testing.T) {
	for n, x := range []struct {
		from int
		s    string
		want api.Fault
		word string
	}{
		{api.FSrt, "x", api.Fault{Err: api.ErrCount, Line: 1, Col: 1}, "count at 1:1"},
		{api.FSrt, "1\n00:00:01,000 --> 0:00:02,000\n", api.Fault{Err: api.ErrTime, Line: 2, Col: 18}, "time at 2:18"},
		{api.FSrt, "1\n00:00:01,000 --> 00:00:02,000\na\n\n1", api.Fault{Err: api.ErrEnd, Line: 6, Col: 1}, "end at 6:1"},
		{api.FVtt, "", api.Fault{Err: api.ErrHead, Line: 1, Col: 1}, "head at 1:1"},
		{api.FVtt, "WEBVTT\n\n->-->\n", api.Fault{Err: api.ErrLine, Line: 3, Col: 1}, "line at 3:1"},
		{api.FVtt, "WEBVTT\n\n00:02.000 --> 00:01.000", api.Fault{Err: api.ErrBack, Line: 3, Col: 1}, "back at 3:1"},
		{api.FFrm, "{1}{1}", api.Fault{Err: api.ErrRate, Line: 1, Col: 7}, "rate at 1:7"},
		{api.FFrm, "{1}{1}24\n{24}{48}a\n{0}{99}b", api.Fault{Err: api.ErrOrder, Line: 3, Col: 1}, "order at 3:1"},
		{api.FAss, "[Script Info]", api.Fault{Err: api.ErrEnd, Line: 2, Col: 1}, "end at 2:1"},
		{api.FAss, "[Script Info]\n[Events]\nFormat: Layer,Start,End,Text\nDialogue: 8,0:00:01.00,0:00:02.00,", api.Fault{Err: api.ErrLane, Line: 4, Col: 11}, "lane at 4:11"},
		{api.FAss, "[Script Info]\n[Events]\nFormat: Start,End,Text\nDialogue: 0:00:01.00,0:00:02.00," + strings.Repeat("x", 4097), api.Fault{Err: api.ErrLong, Line: 4, Col: 33}, "long at 4:33"},
		// what stands ahead of the fault could not be written as srt, either
		{api.FVtt, "WEBVTT\n\n00:01.000 --> 00:02.000\n" + strings.Repeat("&lt;", 4096) + "\n\nx\ny", api.Fault{Err: api.ErrLine, Line: 7, Col: 1}, "line at 7:1"},
	} {
		for to := api.FSrt; to <= api.FAss; to++ {
			err := refused(t, x.s, x.from, to, film)
			var f *conv.Failed
			if !errors.As(err, &f) || f.Fault != x.want || f.Err != nil || err.Error() != x.word || !errors.Is(err, x.want.Err) {
				t.Errorf("%d: %v; want %v", n, err, x.want)
			}
			if got, ok := err.(*conv.Failed); !ok || got != f {
				t.Errorf("%d: %v", n, err)
			}
		}
	}
}

// TestConvertWrites: P1803: what was read and can't be written.
func TestConvertWrites(t *testing.T) {
	const one = "00:01.000 --> 00:02.000\n"
	block := "1\n00:00:01,000 --> 00:00:02,000\n" + strings.Repeat("&", 4096) + "\n\n"
	for n, x := range []struct {
		s        string
		from, to int
		cue      int
		e        api.Errno
	}{
		// look-alikes are longer than what they stand for
		{"WEBVTT\n\n" + one + strings.Repeat("&lt;", 1366), api.FVtt, api.FSrt, 0, api.ErrLong},
		{"WEBVTT\n\n" + one + "a\n\n" + one + strings.Repeat("{", 4096), api.FVtt, api.FFrm, 1, api.ErrLong},
		{"WEBVTT\n\n" + one + "\n" + one + "\n" + one + strings.Repeat("}", 4096), api.FVtt, api.FAss, 2, api.ErrLong},
		// a file that would be too long
		{strings.Repeat(block, 210), api.FSrt, api.FVtt, 0, api.ErrLong},
	} {
		err := refused(t, x.s, x.from, x.to, film)
		wrapsWrong(t, err, x.cue, x.e)
		var f *conv.Failed
		if !errors.As(err, &f) || f.Fault != (api.Fault{}) {
			t.Errorf("%d: %v", n, err)
			continue
		}
		if _, ok := f.Err.(*cue.Wrong); !ok || err != error(f) {
			t.Errorf("%d: %v", n, err)
		}
	}
	// One less of each is written.
	for _, x := range []struct {
		s        string
		from, to int
		lost     []api.Loss
	}{
		{"WEBVTT\n\n" + one + strings.Repeat("&lt;", 1365), api.FVtt, api.FSrt, []api.Loss{{Kind: api.LSign, N: 1365}}},
		{strings.Repeat(block, 204), api.FSrt, api.FVtt, nil},
	} {
		if b, lost, err := conv.Convert([]byte(x.s), x.from, x.to, film); err != nil || len(b) == 0 || !slices.Equal(lost, x.lost) {
			t.Errorf("%d, %v, %v", len(b), lost, err)
		}
	}
}

// TestConvert: P1803, and the example 2.
func TestConvert(t *testing.T) {
	const srtFile = "1\n00:00:01,000 --> 00:00:02,500\n<i>Hi</i>\nthere\n\n"
	const vttFile = "WEBVTT\n\n00:00:01.000 --> 00:00:02.500\n<i>Hi</i>\nthere\n"
	for n, x := range []struct {
		s        string
		from, to int
		r        api.Rate
		want     string
		lost     []api.Loss
	}{
		{srtFile, api.FSrt, api.FVtt, none, vttFile, nil},
		{vttFile, api.FVtt, api.FSrt, none, srtFile, nil},
		{srtFile, api.FSrt, api.FSrt, none, srtFile, nil},
		{"\ufeffWEBVTT\r\n\r\nNOTE x\r\n\r\n7\r\n00:01.000 --> 00:02.500\r\n<i>Hi</i>\r\nthere", api.FVtt, api.FVtt, none, vttFile, nil},
		{"WEBVTT\n\n00:01.000 --> 00:02.500\na\n\n00:01.000 --> 00:02.500 line:0\n<v Ann>b", api.FVtt, api.FSrt, none,
			"1\n00:00:01,000 --> 00:00:02,500\na\n\n2\n00:00:01,000 --> 00:00:02,500\nb\n\n", []api.Loss{{Cue: 1, Kind: api.LSide, N: 1}, {Cue: 1, Kind: api.LName, N: 1}}},
		{"WEBVTT\n\n00:01.000 --> 00:02.500\n<v Ann>a", api.FVtt, api.FSrt, none, "1\n00:00:01,000 --> 00:00:02,500\na\n\n", []api.Loss{{Kind: api.LName, N: 1}}},
		{srtFile, api.FSrt, api.FFrm, film, "{1}{1}24\n{24}{60}Hi|there\n", []api.Loss{{Kind: api.LStyle, N: 2}}},
		{srtFile, api.FSrt, api.FFrm, api.Rate{Num: 1, Den: 1}, "{1}{1}1\n{1}{3}Hi|there\n", []api.Loss{{Kind: api.LTime, N: 1}, {Kind: api.LStyle, N: 2}}},
		// from frames of one rate to those of another one: a file tells its own
		{"{1}{1}25\n{25}{50}{y:i}a|\n", api.FFrm, api.FFrm, tv, "{1}{1}30000/1001d\n{30}{60}{y:i}a|\n", []api.Loss{{Kind: api.LTime, N: 1}}},
		{"{1}{1}25\n{25}{50}{y:i}a|\n", api.FFrm, api.FFrm, film, "{1}{1}24\n{24}{48}{y:i}a|\n", nil},
		{"{1}{1}25\n{25}{50}{y:i}a||b\n", api.FFrm, api.FSrt, film, "1\n00:00:01,000 --> 00:00:02,000\n<i>a\n</i>b\n\n", []api.Loss{{Kind: api.LLine, N: 1}}},
		{"[Script Info]\n[Events]\nFormat: Start,End,Layer,Text\nDialogue: 0:00:01.00,0:00:02.00,3,{\\an8\\s1}a", api.FAss, api.FVtt, none,
			"WEBVTT\n\n00:00:01.000 --> 00:00:02.000 line:0\na\n", []api.Loss{{Kind: api.LLane, N: 1}, {Kind: api.LStyle, N: 1}}},
		// files without cues
		{"", api.FSrt, api.FSrt, none, "", nil},
		{"", api.FSrt, api.FVtt, none, "WEBVTT\n", nil},
		{"WEBVTT", api.FVtt, api.FSrt, none, "", nil},
		{"{1}{1}25", api.FFrm, api.FFrm, film, "{1}{1}24\n", nil},
		// cues that fall together are in order again; losses are told by the numbers that they had
		{"WEBVTT\n\n00:01.001 --> 00:09.000\nlong\n\n00:01.002 --> 00:05.000\n<v Ann>short", api.FVtt, api.FFrm, film, "{1}{1}24\n{24}{120}short\n{24}{216}long\n",
			[]api.Loss{{Cue: 0, Kind: api.LTime, N: 1}, {Cue: 1, Kind: api.LTime, N: 1}, {Cue: 1, Kind: api.LName, N: 1}}},
	} {
		b, lost, err := conv.Convert([]byte(x.s), x.from, x.to, x.r)
		if err != nil || string(b) != x.want || !slices.Equal(lost, x.lost) {
			t.Errorf("%d: %q, %v, %v; want %q, %v", n, b, lost, err, x.want, x.lost)
		}
	}
}

// TestBoth: P1804: what two formats both say; the one behind the other.
func TestBoth(t *testing.T) {
	d := doc(by(at(r(1, 24), whole(2), "\na<b>{c}\n\n", bold(0, 2), strike(0, 9)), 2, api.High, "Ann"), by(low(1, 2, "x"), 0, api.Low, "A,B"))
	for n, x := range []struct {
		one, two int
		want     api.Doc
	}{
		{api.FVtt, api.FAss, doc(by(at(r(1, 25), whole(2), "a<b>\uff5bc\uff5d", bold(0, 1)), 0, api.High, "Ann"), low(1, 2, "x"))},
		{api.FVtt, api.FSrt, doc(at(r(21, 500), whole(2), "a\uff1cb\uff1e{c}", bold(0, 1)), low(1, 2, "x"))},
		{api.FAss, api.FAss, doc(by(at(r(1, 25), whole(2), "\na<b>\uff5bc\uff5d\n\n", bold(0, 2), strike(0, 9)), 2, api.High, "Ann"), low(1, 2, "x"))},
		{api.FFrm, api.FFrm, doc(at(r(1, 24), whole(2), "\na<b>\uff5bc\uff5d\n\n", bold(0, 1), strike(0, 9)), low(1, 2, "x"))},
	} {
		// Spans are told by their normal form.
		want, err := cue.Norm(x.want)
		if err != nil {
			t.Fatal(n, err)
		}
		if got, err := conv.Both(d, x.one, x.two, film); err != nil || !sameDoc(got, want) {
			t.Errorf("%d: %+v, %v; want %+v", n, got, err, want)
		}
	}
	// By way of thousandths 9/2000 is 5/1000, and so one hundredth; by itself it is none.
	for _, x := range []struct {
		one, two int
		from     api.Ratio
	}{{api.FSrt, api.FAss, r(1, 100)}, {api.FAss, api.FSrt, whole(0)}} {
		got, err := conv.Both(doc(at(r(9, 2000), whole(1), "")), x.one, x.two, none)
		if err != nil || !sameDoc(got, doc(at(x.from, whole(1), ""))) {
			t.Errorf("%+v, %v", got, err)
		}
	}
}

// TestBothRefused: P1804: the errors of the formats, the first one's first, ahead of Keep's.
func TestBothRefused(t *testing.T) {
	bad := doc(low(2, 3, ""), low(1, 5, ""))
	try := func(d api.Doc, one, two int, x api.Rate) error {
		t.Helper()
		got, err := conv.Both(d, one, two, x)
		if err == nil || len(got.Cues) != 0 {
			t.Errorf("%+v, %v", got, err)
		}
		return err
	}
	for _, d := range []api.Doc{doc(), bad} {
		for _, n := range noFormats {
			wraps(t, try(d, n, api.FFrm, none), api.ErrKind)
			wraps(t, try(d, api.FFrm, n, none), api.ErrRate)
			wraps(t, try(d, api.FSrt, n, none), api.ErrKind)
			wraps(t, try(d, n, api.FSrt, film), api.ErrKind)
		}
		wraps(t, try(d, api.FFrm, api.FSrt, none), api.ErrRate)
		wraps(t, try(d, api.FSrt, api.FFrm, none), api.ErrRate)
	}
	wrapsWrong(t, try(bad, api.FSrt, api.FVtt, none), 1, api.ErrOrder)
	wrapsWrong(t, try(times(4097, low(0, 1, "")), api.FVtt, api.FVtt, none), 0, api.ErrMany)
	wrapsWrong(t, try(doc(low(0, 1, ""), low(1, 1, "")), api.FAss, api.FFrm, film), 1, api.ErrBack)
	// what the first one, what the second one can't keep
	wrapsWrong(t, try(doc(low(0, 1, ""), low(0, 1, strings.Repeat("<", 4096))), api.FSrt, api.FVtt, none), 1, api.ErrLong)
	wrapsWrong(t, try(doc(low(0, 1, ""), low(0, 1, strings.Repeat("<", 4096))), api.FVtt, api.FSrt, none), 1, api.ErrLong)
	// by the numbers that the cues have by then
	late := doc(at(r(1, 1000), whole(9), strings.Repeat("{", 4096)), at(r(1, 500), whole(5), ""))
	wrapsWrong(t, try(late, api.FVtt, api.FAss, none), 0, api.ErrLong)
	late = doc(at(r(1, 2001), whole(9), strings.Repeat("{", 4096)), at(r(1, 2000), whole(5), ""))
	wrapsWrong(t, try(late, api.FVtt, api.FAss, none), 0, api.ErrLong)
	late = doc(at(r(1, 1000), whole(9), strings.Repeat("}", 4096)), at(r(1, 900), whole(5), ""))
	wrapsWrong(t, try(late, api.FSrt, api.FAss, none), 1, api.ErrLong)
}

// TestSays: P1804, and the example 3.
func TestSays(t *testing.T) {
	short := doc(at(whole(0), r(1, 24), "a"))
	for n, x := range []struct {
		d    api.Doc
		r    api.Rate
		says [5]bool
	}{
		{doc(), film, [5]bool{1: true, 2: true, 3: true, 4: true}},
		{short, film, [5]bool{3: true}},
		{short, api.Rate{Num: 48, Den: 1}, [5]bool{3: true}},
		{short, api.Rate{Num: 25, Den: 1}, [5]bool{}},
		{doc(at(whole(0), r(1, 1000), "a")), film, [5]bool{1: true, 2: true}},
		{doc(at(whole(0), r(1, 100), "a")), film, [5]bool{1: true, 2: true, 4: true}},
		{doc(at(whole(0), r(1, 25), "a")), api.Rate{Num: 25, Den: 1}, [5]bool{1: true, 2: true, 3: true, 4: true}},
		{doc(by(low(0, 1, ""), 1, 0, "")), film, [5]bool{4: true}},
		{doc(by(low(0, 1, ""), 0, api.High, "")), film, [5]bool{2: true, 4: true}},
		{doc(by(low(0, 1, ""), 0, 0, "Ann")), film, [5]bool{2: true, 4: true}},
		{doc(by(low(0, 1, ""), 0, 0, "A,B")), film, [5]bool{2: true}},
		{doc(low(0, 1, "a<b")), film, [5]bool{2: true, 3: true, 4: true}},
		{doc(low(0, 1, "a|b")), film, [5]bool{1: true, 2: true, 4: true}},
		{doc(low(0, 1, "a\\b")), film, [5]bool{1: true, 2: true, 3: true}},
		{doc(low(0, 1, "a{b")), film, [5]bool{1: true, 2: true}},
		{doc(low(0, 1, "a\tb")), film, [5]bool{}},
		{doc(low(0, 1, "a\n\nb")), film, [5]bool{3: true, 4: true}},
		{doc(low(0, 1, "ab", strike(0, 2))), film, [5]bool{1: true, 3: true, 4: true}},
		{doc(low(0, 1, "ab", bold(0, 1))), film, [5]bool{1: true, 2: true, 4: true}},
		{doc(low(0, 1, "ab", bold(1, 2), bold(0, 1))), film, [5]bool{1: true, 2: true, 3: true, 4: true}},
		// one cue of many
		{doc(low(0, 1, "a"), low(1, 2, "<"), low(2, 3, "b")), film, [5]bool{2: true, 3: true, 4: true}},
	} {
		for f := api.FSrt; f <= api.FAss; f++ {
			if ok, err := conv.Says(x.d, f, x.r); err != nil || ok != x.says[f] {
				t.Errorf("%d: by %d: %v, %v", n, f, ok, err)
			}
		}
	}
}

// TestSaysRefused: P1804: the format's error ahead of Keep's.
func TestSaysRefused(t *testing.T) {
	bad := doc(low(2, 3, ""), low(1, 5, ""))
	try := func(d api.Doc, n int, x api.Rate) error {
		t.Helper()
		ok, err := conv.Says(d, n, x)
		if err == nil || ok {
			t.Error(ok, err)
		}
		return err
	}
	for _, d := range []api.Doc{doc(), bad} {
		for _, n := range noFormats {
			wraps(t, try(d, n, film), api.ErrKind)
			wraps(t, try(d, n, none), api.ErrKind)
		}
		wraps(t, try(d, api.FFrm, none), api.ErrRate)
	}
	for f := api.FSrt; f <= api.FAss; f++ {
		wrapsWrong(t, try(bad, f, film), 1, api.ErrOrder)
		wrapsWrong(t, try(times(4097, low(0, 1, "")), f, film), 0, api.ErrMany)
		wrapsWrong(t, try(doc(by(low(0, 1, ""), 8, 0, "")), f, film), 0, api.ErrLane)
	}
	wrapsWrong(t, try(doc(low(0, 1, "a"), low(0, 1, strings.Repeat(">", 1366))), api.FSrt, film), 1, api.ErrLong)
}

// TestFarm: P1805: each of a list, by any crew; no bytes, where one fails.
func TestFarm(t *testing.T) {
	one := func(s string) []byte { return []byte("1\n00:00:01,000 --> 00:00:02,000\n" + s + "\n") }
	long := one(strings.Repeat("<", 4096))
	for crew := 1; crew <= 8; crew++ {
		for _, l := range [][][]byte{nil, {}, {nil}, {one("a")}, {one("a"), []byte("x"), nil, one("b"), long, one("c"), one("d"), []byte("1"), one("e"), one("f"), one("g")}} {
			got, e := conv.Farm(crew, l, api.FSrt, api.FVtt, none)
			if e != api.OK || len(got) != len(l) {
				t.Fatalf("%d: %d of %d, %v", crew, len(got), len(l), e)
			}
			for i, b := range l {
				want, _, err := conv.Convert(b, api.FSrt, api.FVtt, none)
				if string(got[i]) != string(want) || err != nil && len(got[i]) != 0 {
					t.Errorf("%d: %d: %q; want %q", crew, i, got[i], want)
				}
			}
		}
		// What is read and can't be written fails too.
		got, e := conv.Farm(crew, [][]byte{[]byte("WEBVTT\n\n00:01.000 --> 00:02.000\n" + strings.Repeat("{", 4096)), []byte("WEBVTT")}, api.FVtt, api.FFrm, film)
		if e != api.OK || len(got) != 2 || len(got[0]) != 0 || string(got[1]) != "{1}{1}24\n" {
			t.Errorf("%d: %q, %v", crew, got, e)
		}
	}
}

// TestFarmRefused: P1805: the crew ahead of the formats, from's error ahead of to's, whatever the list.
func TestFarmRefused(t *testing.T) {
	for _, l := range [][][]byte{nil, {nil}, {[]byte("x"), []byte("1")}} {
		try := func(crew, from, to int, x api.Rate, want api.Errno) {
			t.Helper()
			if got, e := conv.Farm(crew, l, from, to, x); e != want || len(got) != 0 {
				t.Errorf("Farm(%d, .., %d, %d, %v): %q, %v; want %v", crew, from, to, x, got, e, want)
			}
		}
		for _, crew := range []int{0, 9, -1, 10, math.MaxInt, math.MinInt} {
			try(crew, api.FSrt, api.FVtt, film, api.ErrArg)
			try(crew, 0, 9, none, api.ErrArg)
			try(crew, api.FFrm, api.FFrm, none, api.ErrArg)
		}
		for _, n := range noFormats {
			try(1, n, api.FSrt, film, api.ErrKind)
			try(8, api.FSrt, n, film, api.ErrKind)
			try(2, n, api.FFrm, none, api.ErrKind)
			try(2, api.FFrm, n, none, api.ErrRate)
		}
		try(3, api.FFrm, api.FSrt, none, api.ErrRate)
		try(3, api.FSrt, api.FFrm, none, api.ErrRate)
	}
}

// TestFarmEnds: P1805: none of its goroutines is left behind.
func TestFarmEnds(t *testing.T) {
	before := runtime.NumGoroutine()
	for range 200 {
		if _, e := conv.Farm(8, make([][]byte, 20), api.FSrt, api.FVtt, none); e != api.OK {
			t.Fatal(e)
		}
	}
	// One that has done its work may need a moment to be gone.
	for range 100 {
		if runtime.NumGoroutine() <= before {
			return
		}
		time.Sleep(10 * time.Millisecond)
	}
	t.Errorf("%d goroutines, before %d", runtime.NumGoroutine(), before)
}
