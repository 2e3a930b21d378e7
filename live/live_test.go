package live_test

import (
	"errors"
	"fmt"
	"math"
	"slices"
	"strings"
	"testing"

	"surtitle/api"
	"surtitle/cue"
	"surtitle/live"
)

func r(n, d int64) api.Ratio { return api.Ratio{N: n, D: d} }

func whole(n int64) api.Ratio { return r(n, 1) }

// at is a cue of these times.
func at(from, to api.Ratio, s string, spans ...api.Span) api.Cue {
	return api.Cue{Start: from, End: to, Text: api.Text{S: s, Spans: spans}}
}

func doc(l ...api.Cue) api.Doc { return api.Doc{Cues: l} }

func b(from, to int) api.Span { return api.Span{From: from, To: to, Kind: api.KBold} }

func say(x any) string { return fmt.Sprintf("%+q", fmt.Sprintf("%+v", x)) }

func sameCue(x, y api.Cue) bool {
	return x.Start == y.Start && x.End == y.End && x.Lane == y.Lane && x.Side == y.Side && x.Name == y.Name &&
		x.Text.S == y.Text.S && slices.Equal(x.Text.Spans, y.Text.Spans)
}

func sameDoc(x, y api.Doc) bool { return slices.EqualFunc(x.Cues, y.Cues, sameCue) }

// begin is a stage of a right document.
func begin(t *testing.T, d api.Doc, width int) *live.Stage {
	t.Helper()
	s, err := live.NewStage(d, width)
	if err != nil || s == nil {
		t.Fatalf("NewStage(%s, %d): %v", say(d), width, err)
	}
	return s
}

// step is a piece, and what is told by it; a piece "END" is the end.
type step struct {
	piece string
	texts []string // of the cues
	fault api.Fault
}

func none(piece string) step { return step{piece: piece} }

func told(piece string, texts ...string) step { return step{piece: piece, texts: texts} }

func fails(piece string, e api.Errno, line, col int, texts ...string) step {
	return step{piece, texts, api.Fault{Err: e, Line: line, Col: col}}
}

const end = "END"

// TestNewReader: P2101.
func TestNewReader(t *testing.T) {
	for _, n := range []int{math.MinInt, -1, 0, api.FFrm, api.FAss, api.FCount, 6, math.MaxInt} {
		if x, e := live.NewReader(n); x != nil || e != api.ErrKind {
			t.Error(n, x, e)
		}
	}
	for _, n := range []int{api.FSrt, api.FVtt} {
		if x, e := live.NewReader(n); x == nil || e != api.OK {
			t.Error(n, x, e)
		}
	}
}

// Blocks of files.
const (
	one   = "1\n00:00:01,000 --> 00:00:02,000\n"
	two   = "2\n00:00:03,000 --> 00:00:04,000\n"
	vOne  = "00:01.000 --> 00:02.000\n"
	vTwo  = "00:03.000 --> 00:04.000\n"
	vHead = "WEBVTT\n\n"
)

// whenTold are files in pieces, and what is told when.
func whenTold() []struct {
	format int
	steps  []step
} {
	tooLong, tooMany := strings.Repeat("x", 4097), strings.Repeat("<b>x</b>y", 257)
	return []struct {
		format int
		steps  []step
	}{
		// the chapter's examples
		{api.FSrt, []step{none(one + "Hi\n"), told("\r", "Hi"), none("\n"), none(end)}},
		{api.FVtt, []step{none("WEB"), fails("VT x\n", api.ErrHead, 1, 1), fails("WEBVTT\n", api.ErrHead, 1, 1), fails(end, api.ErrHead, 1, 1), fails("x", api.ErrHead, 1, 1)}},
		// nothing at all
		{api.FSrt, []step{none(""), none(end), none(end)}},
		{api.FVtt, []step{none(""), fails(end, api.ErrHead, 1, 1), fails(end, api.ErrHead, 1, 1)}},
		{api.FSrt, []step{none("\ufeff"), none(end)}},
		{api.FVtt, []step{none("\ufeff"), fails(end, api.ErrHead, 1, 1)}},
		{api.FVtt, []step{none("\xef"), none("\xbb"), none("\xbf"), fails("\r", api.ErrHead, 1, 1)}},
		{api.FSrt, []step{none("\xef"), none("\xbb"), none("\xbf"), none("\r\n\n" + one), told(end, "")}},
		{api.FVtt, []step{fails("\n", api.ErrHead, 1, 1)}},
		{api.FVtt, []step{none("x"), fails(end, api.ErrHead, 1, 1)}},
		// byte order marks
		{api.FSrt, []step{none("\ufeff" + one), told("\n", "")}},
		{api.FSrt, []step{none("\ufeff\ufeff1"), fails("\n", api.ErrCount, 1, 1)}},
		{api.FSrt, []step{none("\n\ufeff1"), fails("\n", api.ErrCount, 2, 1)}},
		{api.FSrt, []step{none(one), told("\n\ufeff", ""), fails("\n", api.ErrCount, 4, 1)}},
		{api.FVtt, []step{none("\ufeffWEBVTT\n"), none(end)}},
		{api.FVtt, []step{none("\ufeff\ufeffWEBVTT"), fails("\n", api.ErrHead, 1, 1)}},
		{api.FVtt, []step{none(vHead + "\ufeff" + vOne[:23]), fails("\n", api.ErrTime, 3, 1)}},
		// several by one piece; a fault beside cues, and behind it none
		{api.FSrt, []step{told(one+"a\n\n\n"+two+"b\n\n", "a", "b"), none(end)}},
		{api.FSrt, []step{fails(one+"a\n\n"+two+"b\n\nx\n"+two+"\n", api.ErrCount, 9, 1, "a", "b"), fails("", api.ErrCount, 9, 1), fails(end, api.ErrCount, 9, 1), fails(end, api.ErrCount, 9, 1)}},
		{api.FVtt, []step{fails(vHead+vOne+"a\n\n"+vTwo+"b\n\n"+vOne, api.ErrOrder, 9, 1, "a", "b"), fails("\n", api.ErrOrder, 9, 1)}},
		// behind End no bytes are taken
		{api.FSrt, []step{none(one + "a"), told(end, "a"), none("\n\nx\n"), none(end), none("x\n"), none(end)}},
		{api.FVtt, []step{none("WEBVTT"), none(end), none("x\n"), none(end)}},
		// ErrCount, ErrLine, ErrTime, ErrBack, ErrOrder: when the line is whole
		{api.FSrt, []step{none("x"), fails("\r", api.ErrCount, 1, 1)}},
		{api.FSrt, []step{none("x"), fails(end, api.ErrCount, 1, 1)}},
		{api.FSrt, []step{none("\n\r\n\r1x"), fails("\n", api.ErrCount, 4, 1)}},
		{api.FSrt, []step{none("1\n00:00:01,000 -> 00:00:02,000"), fails("\n", api.ErrLine, 2, 1)}},
		{api.FSrt, []step{none("1\r\n00:00:01,000 --> 0:00:02,000"), fails(end, api.ErrTime, 2, 18)}},
		{api.FSrt, []step{none("\n1\n00:00:02,000 --> 00:00:01,000 x"), fails("\r", api.ErrBack, 3, 1)}},
		{api.FSrt, []step{told(two+"a\n\n1\n", "a"), none(one[2 : len(one)-1]), fails("\n", api.ErrOrder, 6, 1)}},
		{api.FSrt, []step{told(two+"a\n\n1\n", "a"), none("00:00:03,000 --> 00:00:03,999"), fails(end, api.ErrOrder, 6, 1)}},
		{api.FVtt, []step{none(vHead + "id\n00:01.000 -> 00:02.000"), fails("\n", api.ErrLine, 4, 1)}},
		{api.FVtt, []step{none(vHead + "\n00:01.000 --> 0:2"), fails("\r", api.ErrTime, 4, 15)}},
		{api.FVtt, []step{none(vHead + "00:01.000 --> 00:02.000 x"), fails("\n", api.ErrLine, 3, 24)}},
		{api.FVtt, []step{none(vHead + "id\n00:02.000 --> 00:01.000"), fails(end, api.ErrBack, 4, 1)}},
		// ErrHead at the second line
		{api.FVtt, []step{none("WEBVTT\nx"), fails("\n", api.ErrHead, 2, 1)}},
		{api.FVtt, []step{none("WEBVTT\r\nNOTE"), fails(end, api.ErrHead, 2, 1)}},
		{api.FVtt, []step{none("WEBVTT\r"), none("\n"), none("\r"), none("\n"), none(vOne), none("\xc3"), none("\xa9\r"), told("\r", "é")}},
		// ErrEnd: when the empty line is whole, or by End
		{api.FSrt, []step{none("1"), none("\n"), fails("\n", api.ErrEnd, 2, 1)}},
		{api.FSrt, []step{none("\n1"), none("\r"), none("\n"), fails("\r", api.ErrEnd, 3, 1)}},
		{api.FSrt, []step{none("1"), fails(end, api.ErrEnd, 2, 1)}},
		{api.FSrt, []step{none("1\n"), fails(end, api.ErrEnd, 2, 1)}},
		{api.FVtt, []step{none(vHead + "id"), none("\n"), fails("\n", api.ErrEnd, 4, 1)}},
		{api.FVtt, []step{none(vHead + "\n\nid"), fails(end, api.ErrEnd, 6, 1)}},
		// a fault of a text: when the block is at its end
		{api.FSrt, []step{none(one + "a\n" + tooLong + "\n"), none("b\n"), fails("\n", api.ErrLong, 3, 1)}},
		{api.FSrt, []step{none("\n\n" + one + tooMany), none("\n"), fails(end, api.ErrMany, 5, 1)}},
		{api.FVtt, []step{none(vHead + vOne + tooMany), none("\n"), fails("\r", api.ErrMany, 4, 1)}},
		{api.FVtt, []step{told(vHead+vOne+"\n\nid\n"+vTwo, ""), none("a\n" + tooLong), fails(end, api.ErrLong, 8, 1)}},
		{api.FSrt, []step{none(one + tooLong[1:]), told(end, tooLong[1:])}},
		// notes, ids, sides, names; a note is no cue whatever stands in it
		{api.FVtt, []step{none(vHead + "NOTE\n" + vOne + "x\n\n"), none("NOTE x --> y\n" + vOne), none("\n\n"), none("NOTE"), none(end)}},
		{api.FVtt, []step{none(vHead + "NOTE a\nb\n\nid\n" + vOne + "<v Ann>Hi &amp; bye\n"), told("\n", "Hi & bye")}},
		{api.FVtt, []step{none(vHead + vOne), told("\n"+vOne, ""), told(end, "")}},
	}
}

// TestWhenTold: P2102: each cue, and the fault, by the first call that can tell it.
func TestWhenTold(t *testing.T) {
	for n, x := range whenTold() {
		reader, _ := live.NewReader(x.format)
		for k, s := range x.steps {
			call := reader.End
			if s.piece != end {
				call = func() ([]api.Cue, api.Fault) { return reader.Feed([]byte(s.piece)) }
			}
			l, f := call()
			var texts []string
			for _, c := range l {
				texts = append(texts, c.Text.S)
			}
			if !slices.Equal(texts, s.texts) || f != s.fault {
				t.Errorf("%d, %d: %.60q: %.60q, %v; want %.60q, %v", n, k, s.piece, texts, f, s.texts, s.fault)
			}
		}
	}
}

// TestWholeCues: P2102: cues with all that they have.
func TestWholeCues(t *testing.T) {
	x := feedAll(t, api.FVtt, vHead+"00:01.000 --> 00:02.500 line:0\r<v Ann>a<b>é\rb</b>\r\r1:00:00.000 --> 1:00:00.001\n\n01:00:00.000 --> 100:00:00.000\n", 40, 51, 52)
	want := at(whole(1), r(5, 2), "aé\nb", b(1, 4))
	want.Side, want.Name = api.High, "Ann"
	if f := (api.Fault{Err: api.ErrTime, Line: 7, Col: 1}); x.fault != f || !sameDoc(doc(x.cues...), doc(want)) {
		t.Errorf("%s, %v", say(x.cues), x.fault)
	}
	x = feedAll(t, api.FSrt, "1\n00:00:01,000 --> 00:00:02,500 X1:10\n<i>Hi</i>\nthere\n\n9\n99:59:59,999 --> 100:00:00,000", 60, 80)
	one, two := at(whole(1), r(5, 2), "Hi\nthere", api.Span{From: 0, To: 2, Kind: api.KItalic}), at(r(359999999, 1000), whole(360000), "")
	if x.fault != (api.Fault{}) || !sameDoc(doc(x.cues...), doc(one, two)) {
		t.Errorf("%s, %v", say(x.cues), x.fault)
	}
}

// TestTooManyBytes: P2102: ErrLong when the byte is there, and files that are just not too long.
func TestTooManyBytes(t *testing.T) {
	pads := map[int]func(n int) string{
		api.FSrt: func(n int) string {
			return one[:len(one)-1] + " " + strings.Repeat("x", n-len(one)-3) + "\nA\n\n"
		},
		api.FVtt: func(n int) string {
			return vHead + "NOTE " + strings.Repeat("x", n-15) + "\n\n"
		},
	}
	first := map[int]string{api.FSrt: two, api.FVtt: vTwo}
	tooLong := strings.Repeat("x", 4097)
	for format, pad := range pads {
		cue := first[format]
		for _, tail := range []string{
			cue + "Hi", cue + "Hi\n", cue + "Hi\r", cue + "Hi\r\n", cue + "Hi\n\n", cue + "Hi\n\r", cue + "Hi\n\r\n", cue + "Hi\r\n\r\n",
			cue, cue + "\n", cue + "\r\n", cue[:len(cue)-1] + "\r", cue[:len(cue)-1] + "\r\n\r",
			"7", "7\n", "7\n\n", "7\r\n", "x\n", "x\r", "x\r\n", "\n", "\r", "\r\n",
			cue + tooLong, cue + tooLong + "\n", cue + tooLong + "\r\n", cue + tooLong + "\n\n", cue + tooLong + "\n\r\n",
		} {
			for over := range 3 {
				more := pad(api.MaxFile+over-len(tail)) + tail
				x := newFeeding(t, format)
				x.feed(more[:api.MaxFile-3])
				for at := range more[api.MaxFile-3:] {
					x.feed(more[api.MaxFile-3+at:][:1])
				}
				x.feed("")
				if over == 0 {
					x.end()
				} else if x.fault.Err == api.OK {
					t.Errorf("%.40q, %d: no fault", tail, over)
				}
				x.feed("\n\n")
			}
		}
	}
}

// TestOneBlock: P2102, P2106: files as long as may be that are one block.
func TestOneBlock(t *testing.T) {
	fill := func(front, behind string) string {
		return front + strings.Repeat("x", api.MaxFile-len(front)-len(behind)) + behind
	}
	for n, x := range []struct {
		format int
		s      string
		cues   int
	}{
		{api.FSrt, fill(one[:len(one)-1]+" ", "\nHi"), 1},
		{api.FSrt, fill(one[:len(one)-1]+" ", ""), 1},
		{api.FSrt, fill("\ufeff"+one[:len(one)-1]+" ", "\nHi\n\n"), 1},
		{api.FSrt, fill("\n"+one[:len(one)-1]+" ", "\nHi"), 1},
		{api.FSrt, fill("\r\n"+one[:len(one)-1]+" ", "\nHi\r\n\r"), 1},
		{api.FSrt, fill(one, ""), 0},
		{api.FSrt, fill("", ""), 0},
		{api.FSrt, fill("\n\ufeff", ""), 0},
		{api.FVtt, fill(vHead, "\n"+vOne+"Hi"), 1},
		{api.FVtt, fill(vHead+"NOTEs", "\n"+vOne), 1},
		{api.FVtt, fill(vHead+"NOTE ", "\n\n"+vOne+"Hi"), 1},
		{api.FVtt, fill(vHead, ""), 0},
		{api.FVtt, fill(vHead+vOne, ""), 0},
		{api.FVtt, fill("", ""), 0},
		{api.FVtt, fill("WEBVTT\n", ""), 0},
	} {
		for _, end := range []string{"", "y", "\n"} {
			s := x.s + end
			f := feedAll(t, x.format, s, 1, 3, 10, 40, len(s)-1)
			if end == "" && len(f.cues) != x.cues {
				t.Errorf("%d: %d cues, %v", n, len(f.cues), f.fault)
			}
			if end != "" && f.fault.Err == api.OK {
				t.Errorf("%d: no fault", n)
			}
		}
	}
}

// TestTooManyCues: P2102, P11: ErrMany at the times of the one too many, behind the other faults of its line.
func TestTooManyCues(t *testing.T) {
	for format, block := range map[int]string{api.FSrt: two, api.FVtt: vTwo} {
		s := map[int]string{api.FVtt: vHead}[format] + strings.Repeat(block+"\n", api.MaxCues)
		line := strings.Count(s, "\n") + 1 + strings.Count(block, "\n") - 1
		times := block[strings.IndexByte(block, '\n')+1:]
		if format == api.FVtt {
			times = block
		}
		front := strings.TrimSuffix(block, times)
		for _, x := range []struct {
			line string
			want api.Errno
		}{
			{times, api.ErrMany},
			{strings.Replace(times, "3", "2", 1), api.ErrOrder},
			{strings.Replace(times, "3", "5", 1), api.ErrBack},
			{strings.Replace(times, "-->", "->", 1), api.ErrLine},
		} {
			reader, _ := live.NewReader(format)
			l, f := reader.Feed([]byte(s + front + x.line[:len(x.line)-1]))
			if len(l) != api.MaxCues || f != (api.Fault{}) {
				t.Fatal(format, len(l), f)
			}
			if x.want == api.ErrLine && format == api.FVtt {
				continue // it is an id there
			}
			for range 2 {
				if l, f := reader.Feed([]byte("\n")); len(l) > 0 || f != (api.Fault{Err: x.want, Line: line, Col: 1}) {
					t.Errorf("%d, %q: %d, %v; want line %d", format, x.line, len(l), f, line)
				}
			}
		}
		reader, _ := live.NewReader(format)
		reader.Feed([]byte(s))
		if l, f := reader.End(); len(l) > 0 || f != (api.Fault{}) {
			t.Errorf("%d: %d, %v", format, len(l), f)
		}
	}
}

// TestNewStage: P2103: errors, those of the document first.
func TestNewStage(t *testing.T) {
	right, wrong := doc(at(whole(0), whole(1), "a")), doc(at(whole(0), whole(1), "a"), at(whole(1), whole(1), "b"))
	for _, x := range []struct {
		d     api.Doc
		width int
		want  cue.Wrong
	}{
		{right, 1, cue.Wrong{Cue: 0, Err: api.ErrArg}},
		{right, 0, cue.Wrong{Cue: 0, Err: api.ErrArg}},
		{right, -2, cue.Wrong{Cue: 0, Err: api.ErrArg}},
		{right, api.MaxWidth + 1, cue.Wrong{Cue: 0, Err: api.ErrArg}},
		{right, math.MaxInt, cue.Wrong{Cue: 0, Err: api.ErrArg}},
		{doc(), math.MinInt, cue.Wrong{Cue: 0, Err: api.ErrArg}},
		{wrong, 10, cue.Wrong{Cue: 1, Err: api.ErrBack}},
		{wrong, 0, cue.Wrong{Cue: 1, Err: api.ErrBack}},
		{doc(at(whole(1), whole(2), ""), at(whole(0), whole(2), "")), 201, cue.Wrong{Cue: 1, Err: api.ErrOrder}},
		{doc(slices.Repeat(right.Cues, api.MaxCues+1)...), 10, cue.Wrong{Cue: 0, Err: api.ErrMany}},
	} {
		s, err := live.NewStage(x.d, x.width)
		var w *cue.Wrong
		if s != nil || !errors.As(err, &w) || err != error(w) || *w != x.want {
			t.Errorf("%d: %v; want %v", x.width, err, x.want)
		}
	}
	for _, width := range []int{2, 3, api.MaxWidth - 1, api.MaxWidth} {
		holdStage(t, begin(t, right, width), right, width)
		holdStage(t, begin(t, doc(), width), doc(), width)
	}
}

// TestStage: P2103, P2104: the chapter's examples, and others.
func TestStage(t *testing.T) {
	s := begin(t, doc(at(whole(0), whole(1), "one two three")), 10)
	if l, e := s.Lines(0); e != api.OK || !slices.Equal(l, []string{"one two", "three"}) {
		t.Error(l, e)
	}
	if l, e := s.At(whole(1)); e != api.OK || len(l) > 0 {
		t.Error(l, e)
	}
	if n, e := s.Do(api.Edit{Op: api.EText, Unit: api.USigns, From: 13, To: 13, Text: api.Text{S: "!"}}); e != api.OK || !slices.Equal(n, []int{0}) {
		t.Error(n, e)
	}
	if l, e := s.At(r(1, 2)); e != api.OK || !slices.Equal(l, []string{"one two", "three!"}) {
		t.Error(l, e)
	}
	// The base is that of the whole text, of its first paragraph, whatever line it is; 0, if nothing tells it.
	for text, want := range map[string][]string{
		"":                  {""},
		"\n":                {"", ""},
		"\u05d0 a\nb (c)":   {"a \u05d0", "(b (c"},
		"a\n\u05d0 (\u05d1": {"a", "\u05d1) \u05d0"},
		"(\n\u05d0 1":       {"(", "1 \u05d0"},
		"\u05d0\n(":         {"\u05d0", ")"},
		"\xff":              {"\ufffd"},
	} {
		s := begin(t, doc(at(whole(0), whole(1), text)), 40)
		got, e := s.Lines(0)
		if e != api.OK || !slices.Equal(got, want) {
			t.Errorf("%+q: %+q, %v; want %+q", text, got, e, want)
		}
	}
}

// TestAt: P2103: edges of times, and ratios that are none.
func TestAt(t *testing.T) {
	s := begin(t, doc(at(whole(0), whole(4), "a b"), at(whole(2), whole(3), "c"), at(whole(2), whole(5), "d\ne")), 2)
	for x, want := range map[api.Ratio]string{
		whole(-1): "", whole(0): "a b", r(1, 1<<31): "a b", r(2<<30-1, 1<<30): "a b", whole(2): "a b c d e", whole(3): "a b d e", whole(4): "d e", whole(5): "", r(9, 2): "d e", whole(1 << 62): "", whole(-1 << 62): "",
	} {
		if got, e := s.At(x); e != api.OK || strings.Join(got, " ") != want {
			t.Errorf("%v: %q, %v; want %q", x, got, e, want)
		}
	}
	for _, x := range []api.Ratio{{}, r(1, 0), r(2, 2), r(0, 2), r(1, -1), r(1<<62+1, 1), r(-1<<62-1, 1), r(1, 1<<31+1), r(math.MinInt64, math.MinInt64)} {
		if got, e := s.At(x); e != api.ErrWide || len(got) > 0 {
			t.Errorf("%v: %q, %v", x, got, e)
		}
	}
	for _, n := range []int{math.MinInt, -1, 3, math.MaxInt} {
		if got, e := s.Lines(n); e != api.ErrNone || len(got) > 0 {
			t.Errorf("%d: %q, %v", n, got, e)
		}
	}
}

// TestDo: P2104: which cues are told, and refused edits.
func TestDo(t *testing.T) {
	d := doc(at(whole(0), whole(4), "a", b(0, 1)), at(whole(1), whole(4), "b"), at(whole(1), whole(4), "b"), at(whole(2), whole(4), "c"))
	for _, x := range []struct {
		e    api.Edit
		want []int
		f    api.Errno
	}{
		{api.Edit{Op: api.ETake, Cue: 3}, nil, api.OK},
		{api.Edit{Op: api.ETake, Cue: 1}, []int{2}, api.OK}, // the next one is the same
		{api.Edit{Op: api.ETake, Cue: 0}, []int{0, 2}, api.OK},
		{api.Edit{Op: api.ELay, Cue: 4, New: at(whole(2), whole(4), "c")}, []int{4}, api.OK},
		{api.Edit{Op: api.ELay, Cue: 1, New: at(whole(1), whole(4), "b")}, []int{3, 4}, api.OK},
		{api.Edit{Op: api.ELay, Cue: 0, New: at(whole(0), whole(4), "a", b(0, 1))}, []int{1, 3, 4}, api.OK},
		{api.Edit{Op: api.EShift, Cue: 0, To: 4}, nil, api.ErrWide},
		{api.Edit{Op: api.EShift, Cue: 0, To: 4, Start: whole(0)}, nil, api.OK},
		{api.Edit{Op: api.EShift, Cue: 0, To: 4, Start: whole(1)}, []int{0, 1, 2, 3}, api.OK},
		{api.Edit{Op: api.EShift, Cue: 2, To: 2, Start: whole(1)}, nil, api.OK},
		{api.Edit{Op: api.EPlace, Cue: 2}, nil, api.OK},
		{api.Edit{Op: api.EPlace, Cue: 2, Lane: 1}, []int{2}, api.OK},
		{api.Edit{Op: api.EPlace, Cue: 2, Side: api.High}, []int{2}, api.OK},
		{api.Edit{Op: api.EPlace, Cue: 2, Side: 2}, nil, api.ErrLane},
		{api.Edit{Op: api.ERename, Cue: 3, Name: "x"}, []int{3}, api.OK},
		{api.Edit{Op: api.ERename, Cue: 3}, nil, api.OK},
		{api.Edit{Op: api.ERename, Cue: 3, Name: "\n"}, nil, api.ErrName},
		{api.Edit{Op: api.ETimes, Cue: 1, Start: whole(1), End: whole(3)}, []int{1}, api.OK},
		{api.Edit{Op: api.ETimes, Cue: 1, Start: r(1, 2), End: whole(4)}, []int{1}, api.OK},
		{api.Edit{Op: api.ETimes, Cue: 1, Start: whole(1), End: whole(5)}, nil, api.ErrOrder},
		{api.Edit{Op: api.EText, Cue: 1, Unit: api.UBytes, From: 0, To: 1, Text: api.Text{S: "b"}}, nil, api.OK},
		{api.Edit{Op: api.EText, Cue: 1, Unit: api.UBytes, From: 0, To: 1, Text: api.Text{S: "c"}}, []int{1}, api.OK},
		{api.Edit{Op: api.EStyle, Cue: 1, Unit: api.UBytes, From: 0, To: 1, Kind: api.KItalic}, []int{1}, api.OK},
		{api.Edit{Op: api.EStyle, Cue: 0, Unit: api.UBytes, From: 0, To: 1, Kind: api.KItalic}, []int{0}, api.OK},
		{api.Edit{Op: api.ESplit, Cue: 0, Unit: api.UBytes, From: 1, Start: r(1, 2)}, []int{0, 1, 3, 4}, api.OK},
		{api.Edit{Op: api.EJoin, Cue: 1}, []int{1, 2}, api.OK},
		{api.Edit{Op: api.EJoin, Cue: 3}, nil, api.ErrArg},
		{api.Edit{Op: 11}, nil, api.ErrKind},
		{api.Edit{}, nil, api.ErrKind},
	} {
		s := begin(t, d, 10)
		got, f := s.Do(x.e)
		if f != x.f || !slices.Equal(got, x.want) {
			t.Errorf("%s: %v, %v; want %v, %v", say(x.e), got, f, x.want, x.f)
		}
		if f != api.OK {
			holdStage(t, s, d, 10)
		}
		want := map[bool]api.Errno{true: api.OK, false: api.ErrNone}[f == api.OK]
		if g := s.Undo(); g != want {
			t.Errorf("%s, undone: %v; want %v", say(x.e), g, want)
		}
		holdStage(t, s, d, 10)
	}
}

// TestUndoMany: P2104: as many edits can be undone as a log says.
func TestUndoMany(t *testing.T) {
	s := begin(t, doc(at(whole(0), whole(1), "")), 10)
	for range api.MaxLog + 1 {
		if n, e := s.Do(api.Edit{Op: api.EText, Unit: api.UBytes, Text: api.Text{S: "x"}}); e != api.OK || !slices.Equal(n, []int{0}) {
			t.Fatal(n, e)
		}
	}
	for n := range api.MaxLog {
		if e := s.Undo(); e != api.OK {
			t.Fatal(n, e)
		}
	}
	if e := s.Undo(); e != api.ErrNone {
		t.Error(e)
	}
	holdStage(t, s, doc(at(whole(0), whole(1), "x")), 10)
}

// TestFarm: P2105: errors; documents that are not right; edits that are refused.
func TestFarm(t *testing.T) {
	d, wrong := doc(at(whole(0), whole(1), "a")), doc(at(whole(1), whole(1), "a"))
	for _, x := range []struct {
		crew  int
		l     []api.Doc
		edits [][]api.Edit
	}{
		{0, nil, nil},
		{-1, []api.Doc{d}, [][]api.Edit{nil}},
		{api.MaxCrew + 1, []api.Doc{d}, [][]api.Edit{nil}},
		{math.MaxInt, nil, nil},
		{math.MinInt, nil, nil},
		{1, []api.Doc{d}, nil},
		{1, nil, [][]api.Edit{nil}},
		{8, []api.Doc{d, d}, [][]api.Edit{nil, nil, nil}},
		{8, []api.Doc{wrong}, nil},
	} {
		if l, e := live.Farm(x.crew, x.l, x.edits); e != api.ErrArg || len(l) > 0 {
			t.Errorf("%d, %d, %d: %s, %v", x.crew, len(x.l), len(x.edits), say(l), e)
		}
	}
	name := func(s string) api.Edit { return api.Edit{Op: api.ERename, Name: s} }
	for crew := 1; crew <= api.MaxCrew; crew++ {
		if l, e := live.Farm(crew, nil, nil); e != api.OK || len(l) > 0 {
			t.Errorf("%d: %s, %v", crew, say(l), e)
		}
		l, e := live.Farm(crew, []api.Doc{d, wrong, d, {}, d}, [][]api.Edit{
			{name("x"), {Op: 99}, name("y"), name("\n")},
			{name("x")},
			nil,
			{{Op: api.ELay, New: d.Cues[0]}, {Op: api.ETake, Cue: 1}, name("z")},
			{{Op: api.ETake}},
		})
		y, z := d.Cues[0], d.Cues[0]
		y.Name, z.Name = "y", "z"
		if e != api.OK || !slices.EqualFunc(l, []api.Doc{doc(y), doc(), d, doc(z), doc()}, sameDoc) {
			t.Errorf("%d: %s, %v", crew, say(l), e)
		}
	}
}
