package vtt_test

import (
	"slices"
	"strings"
	"testing"
	"unsafe"

	"surtitle/api"
	"surtitle/cue"
	"surtitle/vtt"
)

// TestThereAndBack: P1504 (T4): Parse of what Write tells is what Keep tells, Keep of that is that, and its file the same.
func TestThereAndBack(t *testing.T) {
	m := newMaker(11)
	for range 10000 {
		d := m.doc(6)
		kept, _, err := vtt.Keep(d)
		b, _, err2 := vtt.Write(d)
		if err != nil || err2 != nil {
			t.Fatal(err, err2)
		}
		back, f := vtt.Parse(b)
		if f != (api.Fault{}) || !sameDoc(back, kept) {
			t.Fatalf("Write(%+v): %q; Parse: %+v, %v; want %+v", d, b, back, f, kept)
		}
		again, lost, err := vtt.Keep(back)
		c, lost2, err2 := vtt.Write(back)
		if err != nil || err2 != nil || len(lost) > 0 || len(lost2) > 0 || !sameDoc(again, kept) || string(c) != string(b) {
			t.Fatalf("Keep(%+v): %+v, %v, %v; Write: %q, %v, %v; want %q", back, again, lost, err, c, lost2, err2, b)
		}
	}
}

// TestParsedIsRight: P11 (T1): whatever is read, faults behind it or not, is a right document that can be written and read again.
func TestParsedIsRight(t *testing.T) {
	m, many := newMaker(12), 0
	for range 10000 {
		s := m.file(8)
		d, _ := vtt.Parse([]byte(s))
		many += len(d.Cues)
		if err := cue.CheckDoc(d); err != nil {
			t.Fatalf("Parse(%q): %+v: %v", s, d, err)
		}
		kept, _, err := vtt.Keep(d)
		b, _, err2 := vtt.Write(d)
		if err != nil || err2 != nil {
			continue
		}
		if back, f := vtt.Parse(b); f != (api.Fault{}) || !sameDoc(back, kept) {
			t.Fatalf("Parse(%q): %+v; then %q: %+v, %v", s, d, b, back, f)
		}
	}
	if many < 10000 {
		t.Errorf("only %d cues: the files try too little", many)
	}
}

// lay tells the file of blocks: with these line ends, so many empty lines and notes ahead of each block, and its lines turned into others.
func lay(blocks [][]string, end string, ahead func() []string, turn func(lines []string) []string) string {
	s := "WEBVTT" + end + end
	for _, lines := range blocks {
		for _, line := range slices.Concat(ahead(), turn(lines), []string{""}) {
			s += line + end
		}
	}
	return s
}

// TestOtherForms: P1505: other line ends, empty lines, notes and ids change nothing but where the fault is.
func TestOtherForms(t *testing.T) {
	m, seen := newMaker(13), map[api.Errno]int{}
	none := func() []string { return nil }
	some := func() []string { return slices.Repeat([]string{""}, m.dice.IntN(4)) }
	notes := func() []string {
		l := some()
		for range m.dice.IntN(3) {
			l = slices.Concat(l, m.note(), []string{""}, some())
		}
		return l
	}
	as := func(l []string) []string { return l }
	// An id ahead of times, or in the place of one.
	ids := func(l []string) []string {
		switch {
		case noteWords(l[0]):
			return l
		case strings.Contains(l[0], "-->"):
			return slices.Concat([]string{m.id()}, l)
		}
		return slices.Concat([]string{m.id()}, l[1:])
	}
	for range 8000 {
		blocks := m.blocks(8)
		plain := lay(blocks, "\n", none, as)
		want, fault := vtt.Parse([]byte(plain))
		seen[fault.Err]++
		for n, x := range []struct {
			s    string
			same bool // where the fault is
		}{
			{lay(blocks, "\r\n", none, as), true},
			{lay(blocks, "\r", none, as), true},
			{"\ufeff" + plain, true},
			{strings.TrimRight(plain, "\n"), true},
			{lay(blocks, "\n", some, as), false},
			{lay(blocks, "\r\n", notes, as), false},
			{lay(blocks, "\n", none, ids), false},
			{lay(blocks, "\r", notes, ids), false},
		} {
			d, f := vtt.Parse([]byte(x.s))
			if f.Err != fault.Err || f.Col != fault.Col || x.same && f != fault || !sameDoc(d, want) {
				t.Fatalf("%d: Parse(%q): %+v, %v; want %+v, %v", n, x.s, d, f, want, fault)
			}
		}
	}
	tried(t, seen, 20, api.OK, api.ErrEnd, api.ErrLine, api.ErrTime, api.ErrBack, api.ErrOrder, api.ErrLong, api.ErrMany)
}

// TestNothingPanics: P1: any numbers and bytes at all; P4: beside an error stands nothing.
func TestNothingPanics(t *testing.T) {
	m := newMaker(14)
	number := func() int { return int(m.dice.Uint64()) >> m.dice.IntN(64) }
	for range 20000 {
		var d api.Doc
		for range m.dice.IntN(4) {
			x := m.cue()
			if m.half() {
				x.Start, x.End = r(int64(number()), int64(number())), r(int64(number()), int64(number()))
			}
			if m.half() {
				x.Lane, x.Side = number(), number()
			}
			for range m.dice.IntN(2) {
				x.Text.Spans = append(x.Text.Spans, api.Span{From: number(), To: number(), Kind: number(), Value: number()})
			}
			d.Cues = append(d.Cues, x)
		}
		kept, lost, err := vtt.Keep(d)
		b, lost2, err2 := vtt.Write(d)
		if (err == nil) != (err2 == nil) || (err == nil) != (cue.CheckDoc(d) == nil) {
			t.Fatalf("%+v: %v, %v", d, err, err2)
		}
		if err != nil && (len(kept.Cues) > 0 || len(lost) > 0 || len(b) > 0 || len(lost2) > 0) {
			t.Fatalf("%+v: %v, %v, %q, %v", d, kept, lost, b, lost2)
		}
		bytes := make([]byte, m.dice.IntN(40))
		for i := range bytes {
			bytes[i] = byte(m.dice.Uint64())
		}
		vtt.Parse(bytes)
	}
}

// TestGreat: P1: files of as many bytes as may be of one kind of thing are read in time.
func TestGreat(t *testing.T) {
	const most = 1 << 22
	fill := func(head, s string) []byte {
		return []byte(head + strings.Repeat(s, (most-len(head))/len(s)))
	}
	for _, x := range []struct {
		b    []byte
		f    api.Fault
		cues int
	}{
		{fill(head, "\r"), api.Fault{}, 0},
		{fill(head, "\r\n"), api.Fault{}, 0},
		{fill("", "W"), api.Fault{Err: api.ErrHead, Line: 1, Col: 1}, 0},
		{fill("WEBVTT\n", "W"), api.Fault{Err: api.ErrHead, Line: 2, Col: 1}, 0},
		{fill(head, "1"), api.Fault{Err: api.ErrEnd, Line: 4, Col: 1}, 0},
		{fill(head, " --> "), api.Fault{Err: api.ErrTime, Line: 3, Col: 1}, 0},
		{fill(head, "-->"), api.Fault{Err: api.ErrLine, Line: 3, Col: 1}, 0},
		{fill(head+"00:01.000 --> ", "0"), api.Fault{Err: api.ErrTime, Line: 3, Col: 15}, 0},
		{fill(head+"00:01.000 --> 00:02.000 ", "x"), api.Fault{Err: api.ErrLine, Line: 3, Col: 24}, 0},
		{fill(head+"NOTE\n", "x\n"), api.Fault{}, 0},
		{fill(head, "NOTE\n\n"), api.Fault{}, 0},
		{fill(head+one, "x\n"), api.Fault{Err: api.ErrLong, Line: 4, Col: 1}, 0},
		{fill(head+one, "<b>"), api.Fault{}, 1},
		{fill(head+one, "<v "), api.Fault{Err: api.ErrLong, Line: 4, Col: 1}, 0},
		{fill(head+one, "<b></b>"), api.Fault{}, 1},
		{fill(head+one, "<c.000000>"), api.Fault{}, 1},
		{fill(head+one, "&amp;"), api.Fault{Err: api.ErrLong, Line: 4, Col: 1}, 0},
		{fill(head+one, "<b>\n"), api.Fault{Err: api.ErrLong, Line: 4, Col: 1}, 0},
		{fill(head, one+"\n"), api.Fault{Err: api.ErrMany, Line: 2*4096 + 3, Col: 1}, 4096},
	} {
		if d, f := vtt.Parse(x.b); f != x.f || len(d.Cues) != x.cues {
			t.Errorf("%.50q: %d, %v; want %d, %v", x.b, len(d.Cues), f, x.cues, x.f)
		}
	}
}

// inside tells whether a text lies in the memory of bytes.
func inside(part, all string) bool {
	at, from := uintptr(unsafe.Pointer(unsafe.StringData(part))), uintptr(unsafe.Pointer(unsafe.StringData(all)))
	return part != "" && at >= from && at < from+uintptr(len(all))
}

// shareList tells whether two lists have memory in common, spare room and all.
func shareList[T any](x, y []T) bool {
	x, y = x[:cap(x)], y[:cap(y)]
	for p := range x {
		for q := range y {
			if &x[p] == &y[q] {
				return true
			}
		}
	}
	return false
}

// TestHandedIn: P2: nothing that is handed in is changed, its spare room neither; what is answered is new memory.
func TestHandedIn(t *testing.T) {
	text := strings.Repeat("some <b>text</b> ", 3)
	text = "<v " + strings.Repeat("Ann", 12) + ">" + text
	all := []byte(head + one + text + "\n\n" + one + text + "spare room")
	b := all[:len(all)-len("spare room")]
	was := string(all)
	d, f := vtt.Parse(b)
	if f != (api.Fault{}) || len(d.Cues) != 2 || string(all) != was {
		t.Fatal(d, f, string(all))
	}
	twin := cue.Twin(d)
	x, y := d.Cues[0].Text, d.Cues[1].Text
	ann, again := d.Cues[0].Name, d.Cues[1].Name
	if len(ann) != 36 || inside(ann, again) || inside(again, ann) || inside(ann, unsafe.String(&all[0], len(all))) {
		t.Error("names share memory")
	}
	if inside(x.S, y.S) || inside(y.S, x.S) || inside(x.S, unsafe.String(&all[0], len(all))) || shareList(x.Spans, y.Spans) {
		t.Error("texts share memory")
	}
	clear(all)
	if !sameDoc(d, twin) {
		t.Errorf("%+v was %+v", d, twin)
	}
	room := append(slices.Clone(d.Cues), low(9, 8, "spare"), low(7, 6, "room"))
	handed := api.Doc{Cues: room[:2]}
	wasRoom := cue.Twin(api.Doc{Cues: room})
	kept, _, err := vtt.Keep(handed)
	file, _, err2 := vtt.Write(handed)
	wasFile := string(file)
	if err != nil || err2 != nil || !sameDoc(api.Doc{Cues: room}, wasRoom) {
		t.Fatal(err, err2, room)
	}
	for _, p := range kept.Cues {
		if inside(p.Text.S, x.S) || inside(p.Text.S, y.S) || shareList(p.Text.Spans, x.Spans) || shareList(p.Text.Spans, y.Spans) {
			t.Error("what is kept shares memory")
		}
		clear(append(p.Text.Spans, api.Span{}))
	}
	clear(append(kept.Cues, api.Cue{}))
	if !sameDoc(api.Doc{Cues: room}, wasRoom) || string(file) != wasFile {
		t.Errorf("%+v was %+v", room, wasRoom)
	}
}

// TestAgain: P3 and P5: the same calls answer the same, whatever is done to an answer, and behind errors.
func TestAgain(t *testing.T) {
	d := doc(top(low(0, 1, "\x00")), by("Ann", low(2, 3, "b")))
	bad := doc(low(0, 1, ""), low(1, 1, ""))
	for range 3 {
		_, _, err := vtt.Keep(bad)
		_, _, err2 := vtt.Write(bad)
		if !(wrong{1, api.ErrBack}).is(err) || !(wrong{1, api.ErrBack}).is(err2) {
			t.Fatal(err, err2)
		}
		*err.(*cue.Wrong), *err2.(*cue.Wrong) = cue.Wrong{}, cue.Wrong{}
		if x, f := vtt.Parse([]byte(head + one + "a\n\nx")); f != (api.Fault{Err: api.ErrEnd, Line: 7, Col: 1}) || !sameDoc(x, doc(low(1, 2, "a"))) {
			t.Fatal(x, f)
		}
		b, lost, err := vtt.Write(d)
		if err != nil || !slices.Equal(lost, []api.Loss{{Kind: api.LSign, N: 1}}) || string(b) != file("", "00:00:00.000 --> 00:00:01.000 line:0", " ", "", "00:00:02.000 --> 00:00:03.000", "<v Ann>b") {
			t.Fatalf("%q, %v, %v", b, lost, err)
		}
		clear(b[:cap(b)])
		clear(lost[:cap(lost)])
	}
}
