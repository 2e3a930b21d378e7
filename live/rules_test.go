package live_test

import (
	"bytes"
	"runtime"
	"slices"
	"strings"
	"testing"
	"unsafe"

	"surtitle/api"
	"surtitle/cue"
	"surtitle/live"
)

// inside tells whether a text lies in the memory of another one.
func inside(part, s string) bool {
	at, from := uintptr(unsafe.Pointer(unsafe.StringData(part))), uintptr(unsafe.Pointer(unsafe.StringData(s)))
	return part != "" && at >= from && at < from+uintptr(len(s))
}

// shareList tells whether two lists have memory in common, spare room and all.
func shareList[T any](x, y []T) bool {
	x, y = x[:cap(x)], y[:cap(y)]
	for p := range x {
		for q := range y {
			if &x[p] == &y[q] {
				return true
			}
		}
	}
	return false
}

// shareMemory tells whether two cues have memory in common.
func shareMemory(x, y api.Cue) bool {
	return shareList(x.Text.Spans, y.Text.Spans) || inside(x.Name, y.Name) || inside(x.Text.S, y.Text.S)
}

// spoilAll changes all memory of cues that can be changed.
func spoilAll(l []api.Cue) {
	for _, x := range l {
		clear(x.Text.Spans[:cap(x.Text.Spans)])
	}
	clear(l[:cap(l)])
}

// rich is a document of cues of which nothing is zero, in memory with spare room.
func rich() api.Doc {
	x := func(from, to int64) api.Cue {
		spans := append(make([]api.Span, 0, 9), b(2, 3), b(0, 5), b(1, 4))
		return api.Cue{Start: whole(from), End: whole(to), Lane: 3, Side: api.High, Name: strings.Repeat("n", 40), Text: api.Text{S: strings.Repeat("text ", 9), Spans: spans}}
	}
	return doc(append(make([]api.Cue, 0, 9), x(1, 9), x(2, 9), x(3, 9))...)
}

// someEdits are edits of rich, in memory with spare room.
func someEdits() []api.Edit {
	return []api.Edit{
		{Op: api.ELay, Cue: 2, New: rich().Cues[1]},
		{Op: api.EText, Cue: 1, Unit: api.USigns, From: 0, To: 45, Text: rich().Cues[0].Text},
		{Op: api.ERename, Cue: 1, Name: strings.Repeat("m", 50)},
		{Op: api.EShift, Cue: 1, To: 3, Start: r(1, 2)},
		{Op: api.ETake, Cue: 0},
		{Op: api.ESplit, Cue: 0, Unit: api.UPairs, From: 9, Start: whole(5)},
	}
}

// TestPiecesHandedIn: P2: pieces are not changed, their spare room neither, and not kept.
func TestPiecesHandedIn(t *testing.T) {
	for format, s := range map[int]string{
		api.FSrt: "\ufeff" + one + "<b>first</b>\nline\n\n" + two + "second\n\nx\n",
		api.FVtt: vHead + "NOTE x\n\nid\n" + vOne + "<v Ann>first\nline\n\n" + vTwo + "second\n\n" + vOne,
	} {
		want, fault := parseWords(format, []byte(s))
		for size := 1; size < len(s); size++ {
			reader, _ := live.NewReader(format)
			var got []api.Cue
			var last api.Fault
			room := make([]byte, size+8)
			for piece := range slices.Chunk([]byte(s), size) {
				for at := range room {
					room[at] = '!'
				}
				b := room[:copy(room, piece)]
				l, f := reader.Feed(b)
				if !bytes.Equal(b, piece) || strings.Trim(string(room[len(b):]), "!") != "" {
					t.Fatalf("%d: the piece that was handed in is %q", size, room)
				}
				got, last = append(got, l...), f
			}
			clear(room)
			if !sameDoc(doc(got...), want) || last != fault || fault.Err == api.OK {
				t.Fatalf("%d: %s, %v; want %s, %v", size, say(got), last, say(want), fault)
			}
		}
	}
}

// TestCuesAreNew: P2, P3, P8: whatever is done to cues that were told, later ones are what they are; readers are apart.
func TestCuesAreNew(t *testing.T) {
	s := one + "<b>first</b> <b>text</b>\n\n" + two + "<i>second</i> text\n\n3\n00:00:05,000 --> 00:00:06,000\n<b>third</b>\n\n"
	want, _ := parseWords(api.FSrt, []byte(s))
	x, _ := live.NewReader(api.FSrt)
	y, _ := live.NewReader(api.FSrt)
	var all []api.Cue
	for at := range s {
		l, _ := x.Feed([]byte(s[at : at+1]))
		for _, c := range l {
			if n := len(all); !sameCue(c, want.Cues[n]) {
				t.Fatalf("%d: %s; want %s", n, say(c), say(want.Cues[n]))
			}
			all = append(all, c)
		}
		spoilAll(l)
	}
	whole, f := y.Feed([]byte(s))
	if f != (api.Fault{}) || !sameDoc(doc(whole...), want) {
		t.Errorf("%s, %v", say(whole), f)
	}
	for n, u := range whole {
		for _, v := range slices.Concat(whole[:n], all) {
			if shareMemory(u, v) {
				t.Errorf("cue %d shares memory", n)
			}
		}
	}
}

// TestAnyBytes: P1: a reader takes any bytes in any pieces; behind End, and behind a fault, too.
func TestAnyBytes(t *testing.T) {
	m := newMaker(11)
	for range 3000 {
		x := newFeeding(t, pick(m, api.FSrt, api.FVtt))
		for range 20 {
			if m.one(30) {
				x.end()
			}
			x.feed(m.parts(4, "\r", "\n", "\xef", "\xbb", "\xbf", "1", "WEBVTT\n", "\n\n", " --> ", "00:00:01,000 --> 00:00:02,000\n", "00:01.000 --> 00:02.000", "<b>", "\xff", "\x00", "NOTE", "x"))
		}
		x.end()
		x.holdAll()
	}
	// A reader and a stage that no call has made are of no use; but nothing panics.
	var reader live.Reader
	reader.Feed([]byte(one + "x\n\n" + two))
	reader.End()
	var s live.Stage
	s.Undo()
	s.Do(api.Edit{Op: api.ELay, New: at(whole(0), whole(1), "x")})
	s.At(whole(0))
	s.Lines(0)
	s.Segments()
	s.Doc()
}

// TestByteByByte: P1, P2106: files as long as may be, of one block and of many, a byte at a time.
func TestByteByByte(t *testing.T) {
	note := "NOTE " + strings.Repeat("x\n", 50) + "\n"
	for n, x := range []struct {
		format int
		s      string
		cues   int
	}{
		{api.FSrt, one + strings.Repeat("<b></b>\n", 520000), 0},
		{api.FSrt, one + strings.Repeat("<b></b><i></i>", 4096*64), 1},
		{api.FSrt, strings.Repeat("\n", 4000000) + one, 1},
		{api.FSrt, strings.Repeat(two+strings.Repeat("a\n", 400)+"\n", 4096), 4096},
		{api.FVtt, vHead + strings.Repeat(note, 30000) + vOne, 1},
		{api.FVtt, vHead + strings.Repeat("NOTE\n\n", 600000) + vOne, 1},
		{api.FVtt, vHead + "NOTE\n" + strings.Repeat("x\n", 2000000) + "\n" + vOne, 1},
		{api.FVtt, vHead + strings.Repeat("x", 4000000) + "\n" + vOne + strings.Repeat("y\n", 2048), 1},
	} {
		reader, _ := live.NewReader(x.format)
		var got []api.Cue
		for at := range x.s {
			l, _ := reader.Feed([]byte{x.s[at]})
			got = append(got, l...)
		}
		l, f := reader.End()
		got = append(got, l...)
		if d, g := parseWords(x.format, []byte(x.s)); f != g || !sameDoc(doc(got...), d) || len(got) != x.cues {
			t.Errorf("%d: %d cues, %v; want %d, %v", n, len(got), f, len(d.Cues), g)
		}
	}
}

// TestStageHandedIn: P2: documents and edits are not changed, their spare room neither, and not kept.
func TestStageHandedIn(t *testing.T) {
	d := rich()
	s, twin := begin(t, d, 20), begin(t, rich(), 20)
	for n, e := range someEdits() {
		was := someEdits()[n]
		got, f := s.Do(e)
		want, g := twin.Do(someEdits()[n])
		if f != api.OK || g != api.OK || !slices.Equal(got, want) {
			t.Fatal(n, got, f, want, g)
		}
		if !sameCue(e.New, was.New) || !slices.Equal(e.Text.Spans[:cap(e.Text.Spans)], was.Text.Spans[:cap(e.Text.Spans)]) || !slices.Equal(e.New.Text.Spans[:cap(e.New.Text.Spans)], was.New.Text.Spans[:cap(e.New.Text.Spans)]) {
			t.Errorf("%d: the edit that was handed in is %s", n, say(e))
		}
		spoilAll([]api.Cue{e.New, {Text: e.Text}})
	}
	if !sameDoc(doc(d.Cues[:9]...), doc(rich().Cues[:9]...)) || !slices.Equal(d.Cues[0].Text.Spans[:9], rich().Cues[0].Text.Spans[:9]) {
		t.Errorf("the document that was handed in is %s", say(d))
	}
	for _, x := range s.Doc().Cues {
		for _, y := range d.Cues {
			if shareMemory(x, y) {
				t.Errorf("%s is memory that was handed in", say(x))
			}
		}
	}
	spoilAll(d.Cues)
	holdStage(t, s, twin.Doc(), 20)
	for range someEdits() {
		s.Undo()
	}
	holdStage(t, s, rich(), 20)
}

// TestStageAnswersAreNew: P2, P3, P8: whatever is done to an answer, a stage tells the same again; another stage is apart.
func TestStageAnswersAreNew(t *testing.T) {
	s, other := begin(t, rich(), 20), begin(t, rich(), 20)
	for range 3 {
		d := s.Doc()
		for n, x := range d.Cues {
			for _, y := range slices.Concat(d.Cues[:n], other.Doc().Cues) {
				if shareMemory(x, y) {
					t.Errorf("cue %d shares memory", n)
				}
			}
		}
		spoilAll(d.Cues)
		segments := s.Segments()
		for n, x := range segments {
			for _, y := range segments[:n] {
				if shareList(x.Cues, y.Cues) {
					t.Errorf("segment %d shares memory", n)
				}
			}
			clear(x.Cues[:cap(x.Cues)])
		}
		clear(segments[:cap(segments)])
		l, _ := s.Lines(1)
		clear(l[:cap(l)])
		l, _ = s.At(whole(4))
		clear(l[:cap(l)])
		numbers, e := s.Do(api.Edit{Op: api.EPlace, Cue: 1, Lane: 5})
		if e != api.OK {
			t.Fatal(e)
		}
		clear(numbers[:cap(numbers)])
		if s.Undo() != api.OK {
			t.Fatal("not undone")
		}
		holdStage(t, s, rich(), 20)
	}
	other.Do(api.Edit{Op: api.ETake})
	holdStage(t, s, rich(), 20)
}

// TestRefusedChangesNothing: P5: a refused edit changes nothing, neither what can be undone.
func TestRefusedChangesNothing(t *testing.T) {
	m, refused := newMaker(12), 0
	for range 300 {
		d, width := m.doc(5), pick(m, 2, 7, 200)
		x, y := begin(t, d, width), begin(t, d, width)
		for range 12 {
			e := m.edit(len(x.Doc().Cues))
			l, f := x.Do(e)
			if f != api.OK {
				refused++
				continue
			}
			if k, g := y.Do(e); g != api.OK || !slices.Equal(k, l) {
				t.Fatalf("%s: %v, %v; %v", say(e), k, g, l)
			}
		}
		for f := api.OK; f == api.OK; {
			holdStage(t, x, y.Doc(), width)
			f = x.Undo()
			if g := y.Undo(); g != f {
				t.Fatal(f, g)
			}
		}
	}
	if refused < 1000 {
		t.Errorf("only %d are refused: the edits try too little", refused)
	}
}

// TestNothingPanics: P1, T1: any numbers and texts at all; the document stays right.
func TestNothingPanics(t *testing.T) {
	m := newMaker(13)
	number := func() int { return int(m.dice.Uint64()) >> m.dice.IntN(64) }
	ratio := func() api.Ratio { return pick(m, m.time(), r(int64(number()), int64(number()))) }
	text := func() api.Text {
		x := m.text()
		if m.one(3) {
			x.Spans = append(x.Spans, api.Span{From: number(), To: number(), Kind: number(), Value: number()})
		}
		return x
	}
	anyCue := func() api.Cue {
		return api.Cue{Start: ratio(), End: ratio(), Lane: number(), Side: number(), Name: m.parts(3, "x", "\n", "\xff"), Text: text()}
	}
	for range 8000 {
		d, width := m.doc(3), pick(m, number(), 2, 10, 200)
		if m.one(4) {
			d.Cues = append(d.Cues, anyCue())
		}
		e := api.Edit{Op: pick(m, number(), 1+m.dice.IntN(10)), Cue: pick(m, number(), 0), Unit: pick(m, number(), 1, 2, 3), From: pick(m, number(), 0), To: number(), Kind: number(), Value: number()}
		e.Start, e.End, e.Lane, e.Side, e.Name, e.Text, e.New = ratio(), ratio(), number(), number(), m.parts(4, "x", "\n"), text(), anyCue()
		l, f := live.Farm(pick(m, number(), 1, 3), []api.Doc{d, d}, [][]api.Edit{{e}, {e, e}})
		if f != api.OK && len(l) > 0 || f == api.OK && (cue.CheckDoc(l[0]) != nil || cue.CheckDoc(l[1]) != nil) {
			t.Fatalf("Farm of %s with %s: %s, %v", say(d), say(e), say(l), f)
		}
		s, err := live.NewStage(d, width)
		if err != nil {
			if s != nil {
				t.Fatal(err, s)
			}
			continue
		}
		if _, f := s.At(ratio()); f != api.OK && f != api.ErrWide {
			t.Fatal(f)
		}
		s.Lines(number())
		if n, f := s.Do(e); f != api.OK && len(n) > 0 || cue.CheckDoc(s.Doc()) != nil {
			t.Fatalf("Do(%s) in %s: %v, %v, %s", say(e), say(d), n, f, say(s.Doc()))
		}
	}
}

// TestFarmHandedIn: P2: what is handed in is not changed and not kept; answers are new memory, also where one document stands there twice.
func TestFarmHandedIn(t *testing.T) {
	d, row := rich(), someEdits()
	l, edits := []api.Doc{d, d, d, d}, [][]api.Edit{row, nil, row[:2], row}
	got, e := live.Farm(3, l, edits)
	want := farmWords([]api.Doc{rich(), rich(), rich(), rich()}, [][]api.Edit{someEdits(), nil, someEdits()[:2], someEdits()})
	if e != api.OK || !slices.EqualFunc(got, want, sameDoc) {
		t.Fatalf("%s, %v", say(got), e)
	}
	if !sameDoc(doc(d.Cues[:9]...), doc(rich().Cues[:9]...)) || say(row) != say(someEdits()) || len(l) != 4 {
		t.Errorf("what was handed in is %s, %s", say(d), say(row))
	}
	for n, x := range got {
		for k := range n {
			if shareList(x.Cues, got[k].Cues) {
				t.Errorf("%d and %d share memory", n, k)
			}
			for _, u := range x.Cues {
				for _, v := range slices.Concat(d.Cues, got[k].Cues) {
					if shareMemory(u, v) {
						t.Errorf("%d and %d share memory", n, k)
					}
				}
			}
		}
	}
	spoilAll(d.Cues)
	clear(l)
	clear(edits)
	clear(row)
	if !slices.EqualFunc(got, want, sameDoc) {
		t.Errorf("kept: %s", say(got))
	}
}

// TestFarmEnds: all goroutines have ended when Farm answers; many documents and few, great and small.
func TestFarmEnds(t *testing.T) {
	great := doc(slices.Repeat([]api.Cue{at(whole(0), whole(9), strings.Repeat("x", 500))}, 1000)...)
	var l []api.Doc
	var edits [][]api.Edit
	for n := range 300 {
		d := doc(at(whole(0), whole(1), "x"))
		if n%50 == 0 {
			d = great
		}
		l = append(l, d)
		edits = append(edits, slices.Repeat([]api.Edit{{Op: api.EText, Unit: api.UBytes, Text: api.Text{S: "y"}}}, n%7))
	}
	want := farmWords(l, edits)
	before := runtime.NumGoroutine()
	for crew := 1; crew <= api.MaxCrew; crew++ {
		for _, many := range []int{0, 1, 2, 7, 8, 9, 300} {
			got, e := live.Farm(crew, l[:many], edits[:many])
			if e != api.OK || !slices.EqualFunc(got, want[:many], sameDoc) {
				t.Errorf("%d, %d: %v", crew, many, e)
			}
			// One that has said that it is done may be a moment away from its end.
			for range 1000 {
				if runtime.NumGoroutine() <= before {
					break
				}
				runtime.Gosched()
			}
			if n := runtime.NumGoroutine(); n > before {
				t.Fatalf("%d, %d: %d goroutines, %d ahead of it", crew, many, n, before)
			}
		}
	}
}

// TestMostOfAll: P1, P2107: as many cues as may be.
func TestMostOfAll(t *testing.T) {
	d := doc(slices.Repeat([]api.Cue{at(whole(0), whole(9), "one two three")}, api.MaxCues)...)
	s := begin(t, d, 7)
	if l, e := s.At(whole(8)); e != api.OK || len(l) != 2*api.MaxCues {
		t.Error(len(l), e)
	}
	if _, e := s.Do(api.Edit{Op: api.ELay, New: d.Cues[0]}); e != api.ErrMany {
		t.Error(e)
	}
	if n, e := s.Do(api.Edit{Op: api.EShift, To: api.MaxCues, Start: whole(1)}); e != api.OK || len(n) != api.MaxCues {
		t.Error(len(n), e)
	}
	if n, e := s.Do(api.Edit{Op: api.ETake, Cue: 7}); e != api.OK || len(n) != 0 {
		t.Error(n, e)
	}
	if n, e := s.Do(api.Edit{Op: api.ESplit, Cue: 7, Unit: api.UBytes, From: 3, Start: whole(2)}); e != api.ErrOrder {
		t.Error(n, e)
	}
	if n, e := s.Do(api.Edit{Op: api.ESplit, Cue: 0, Unit: api.UBytes, From: 3, Start: whole(2)}); e != api.OK || !slices.Equal(n, []int{0, api.MaxCues - 1}) {
		t.Error(n, e)
	}
	if l, e := s.Lines(api.MaxCues - 1); e != api.OK || !slices.Equal(l, []string{" two", "three"}) {
		t.Errorf("%q, %v", l, e)
	}
	if g := s.Segments(); len(g) != 2 || len(g[0].Cues) != api.MaxCues-1 || len(g[1].Cues) != api.MaxCues-1 {
		t.Error(len(g))
	}
}
