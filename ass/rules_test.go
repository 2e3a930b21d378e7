package ass_test

import (
	"math/big"
	"slices"
	"strconv"
	"strings"
	"testing"
	"unsafe"

	"surtitle/api"
	"surtitle/ass"
	"surtitle/cue"
)

// TestThereAndBack: P1704 (T4): Parse of what Write tells is what Keep tells, Keep of that is that, and its file the same.
func TestThereAndBack(t *testing.T) {
	m := newMaker(11)
	for range 10000 {
		d := m.doc(6)
		kept, _, err := ass.Keep(d)
		b, _, err2 := ass.Write(d)
		if err != nil || err2 != nil {
			t.Fatal(err, err2)
		}
		back, f := ass.Parse(b)
		if f != (api.Fault{}) || !sameDoc(back, kept) {
			t.Fatalf("Write(%+v): %q; Parse: %+v, %v; want %+v", d, b, back, f, kept)
		}
		again, lost, err := ass.Keep(back)
		c, lost2, err2 := ass.Write(back)
		if err != nil || err2 != nil || len(lost) > 0 || len(lost2) > 0 || !sameDoc(again, kept) || string(c) != string(b) {
			t.Fatalf("Keep(%+v): %+v, %v, %v; Write: %q, %v, %v; want %q", back, again, lost, err, c, lost2, err2, b)
		}
	}
}

// TestEveryPart: P1704 (T4): every lane, side, many names and times go there and back.
func TestEveryPart(t *testing.T) {
	var l []api.Cue
	for lane := range 8 {
		for side := range 2 {
			for _, name := range []string{"", " ", "Ann", "\xff", ";", "[Events]", "{\\b1}", "\\N", "\u0085\u2028", strings.Repeat("n", 64)} {
				for _, from := range []int64{0, 1, 99, 100, 5999, 359999, 360000, 35999999} {
					l = append(l, by(at(cents(from), cents(from+1), "a,"+name, italic(0, 1)), lane, side, name))
				}
			}
		}
	}
	d, _, err := ass.Keep(doc(cue.Sort(l)...))
	b, lost, err2 := ass.Write(d)
	if err != nil || err2 != nil || len(lost) > 0 || string(b) != writeWords(d) {
		t.Fatal(err, lost, err2)
	}
	if back, f := ass.Parse(b); f != (api.Fault{}) || !sameDoc(back, d) || len(back.Cues) != len(l) {
		t.Fatalf("%d, %v; want %d", len(back.Cues), f, len(l))
	}
}

// cents are hundredths of a second.
func cents(n int64) api.Ratio {
	v := big.NewRat(n, 100)
	return r(v.Num().Int64(), v.Denom().Int64())
}

// TestParsedIsRight: P11 (T1): whatever is read, faults behind it or not, is a right document that can be written and read again.
func TestParsedIsRight(t *testing.T) {
	m, many := newMaker(12), 0
	for range 10000 {
		s := m.file(8)
		d, _ := ass.Parse([]byte(s))
		many += len(d.Cues)
		if err := cue.CheckDoc(d); err != nil {
			t.Fatalf("Parse(%q): %+v: %v", s, d, err)
		}
		kept, lost, err := ass.Keep(d)
		b, _, err2 := ass.Write(d)
		if (err == nil) != (err2 == nil) {
			t.Fatalf("Parse(%q): %+v: %v, %v", s, d, err, err2)
		}
		if err != nil {
			continue
		}
		if slices.ContainsFunc(lost, func(x api.Loss) bool { return x.Kind != api.LSign }) {
			t.Fatalf("Parse(%q): %+v: %v", s, d, lost)
		}
		if back, f := ass.Parse(b); f != (api.Fault{}) || !sameDoc(back, kept) {
			t.Fatalf("Parse(%q): %+v; then %q: %+v, %v", s, d, b, back, f)
		}
	}
	if many < 10000 {
		t.Errorf("only %d cues: the files try too little", many)
	}
}

// mixed tells lines with others between them that say nothing where they stand, and how many of these stand ahead of each line, and of the end.
func (m maker) mixed(lines []string) (l []string, ahead []int) {
	sections := sectionsWords(lines)
	for n := range len(lines) + 1 {
		section := ""
		if n > 0 {
			section = sections[n-1]
		}
		for m.one(3) {
			switch {
			case n == 0 && strings.HasPrefix(lay(lines, "\n"), "\ufeff"):
				// A byte order mark is one at the file's beginning alone.
			case section == "":
				l = append(l, "")
			case section == "[Events]":
				l = append(l, m.passed()...)
			case m.half():
				l = append(l, m.others()...)
			default:
				l = slices.Concat(l, []string{pick(m, "[x]", "[Events] ", "[Script Info]")}, m.others())
			}
		}
		ahead = append(ahead, len(l)-n)
		if n < len(lines) {
			l = append(l, lines[n])
		}
	}
	return l, ahead
}

// otherOrder tells lines with the fields, and the parts of each cue, in another order, if the first line of fields is right.
func (m maker) otherOrder(lines []string) []string {
	sections, l := sectionsWords(lines), slices.Clone(lines)
	var titles []string
	var order []int
	for n, line := range lines {
		switch {
		case sections[n] != "[Events]":
		case strings.HasPrefix(line, "Format: ") && titles == nil:
			got, right := fieldsWords(line)
			if !right {
				return l
			}
			titles, order = got, append(m.dice.Perm(len(got)-1), len(got)-1)
			l[n] = "Format: " + strings.Join(turned(got, order), ",")
		case strings.HasPrefix(line, "Dialogue: ") && titles != nil:
			if parts := strings.SplitN(line[10:], ",", len(titles)); len(parts) == len(titles) {
				l[n] = "Dialogue: " + strings.Join(turned(parts, order), ",")
			}
		}
	}
	return l
}

// turned tells a list in another order.
func turned(l []string, order []int) []string {
	var other []string
	for _, n := range order {
		other = append(other, l[n])
	}
	return other
}

// lay tells the file of lines, with these line ends.
func lay(lines []string, end string) string {
	return strings.Join(append(slices.Clone(lines), ""), end)
}

// TestOtherForms: P1705: other line ends, lines that say nothing between the others, another order of fields change nothing but where the fault is.
func TestOtherForms(t *testing.T) {
	m, seen := newMaker(13), map[api.Errno]int{}
	for range 8000 {
		lines := m.lines(8)
		plain := lay(lines, "\n")
		want, fault := ass.Parse([]byte(plain))
		seen[fault.Err]++
		for n, s := range []string{lay(lines, "\r\n"), lay(lines, "\r"), "\ufeff" + plain} {
			if n == 2 && strings.HasPrefix(plain, "\ufeff") {
				continue
			}
			if d, f := ass.Parse([]byte(s)); f != fault || !sameDoc(d, want) {
				t.Fatalf("Parse(%q): %+v, %v; want %+v, %v", s, d, f, want, fault)
			}
		}
		mixed, ahead := m.mixed(lines)
		moved := fault
		if fault.Err != api.OK {
			moved.Line += ahead[fault.Line-1]
		}
		for _, end := range []string{"\n", "\r\n", "\r"} {
			s := lay(mixed, end)
			if d, f := ass.Parse([]byte(s)); f != moved || !sameDoc(d, want) {
				t.Fatalf("Parse(%q): %+v, %v; want %+v, %v, as of %q", s, d, f, want, moved, plain)
			}
		}
		s := lay(m.otherOrder(lines), "\n")
		if d, f := ass.Parse([]byte(s)); f.Err != fault.Err || f.Line != fault.Line || (f.Col == 1) != (fault.Col == 1) || !sameDoc(d, want) {
			t.Fatalf("Parse(%q): %+v, %v; want %+v, %v, as of %q", s, d, f, want, fault, plain)
		}
	}
	tried(t, seen, 20, api.OK, api.ErrHead, api.ErrEnd, api.ErrLine, api.ErrTime, api.ErrBack, api.ErrOrder, api.ErrLane, api.ErrName, api.ErrLong, api.ErrMany)
}

// TestNothingPanics: P1: any numbers and bytes at all; P4: beside an error stands nothing.
func TestNothingPanics(t *testing.T) {
	m := newMaker(14)
	number := func() int { return int(m.dice.Uint64()) >> m.dice.IntN(64) }
	for range 20000 {
		var d api.Doc
		for range m.dice.IntN(4) {
			x := m.cue()
			if m.half() {
				x.Start, x.End = r(int64(number()), int64(number())), r(int64(number()), int64(number()))
			}
			if m.half() {
				x.Lane, x.Side = number(), number()
			}
			for range m.dice.IntN(2) {
				x.Text.Spans = append(x.Text.Spans, api.Span{From: number(), To: number(), Kind: number(), Value: number()})
			}
			d.Cues = append(d.Cues, x)
		}
		kept, lost, err := ass.Keep(d)
		b, lost2, err2 := ass.Write(d)
		if (err == nil) != (err2 == nil) || (err == nil) != (cue.CheckDoc(d) == nil) {
			t.Fatalf("%+v: %v, %v", d, err, err2)
		}
		if err != nil && (len(kept.Cues) > 0 || len(lost) > 0 || len(b) > 0 || len(lost2) > 0) {
			t.Fatalf("%+v: %v, %v, %q, %v", d, kept, lost, b, lost2)
		}
		bytes := make([]byte, m.dice.IntN(40))
		for i := range bytes {
			bytes[i] = byte(m.dice.Uint64())
		}
		for _, head := range []string{"", "[", "[Script Info]\n[Events]\nFormat: ", few + "Dialogue: "} {
			ass.Parse(append([]byte(head), bytes...))
		}
	}
	ass.Parse(nil)
}

// TestGreat: P1: files of as many bytes as may be of one kind of thing are read in time.
func TestGreat(t *testing.T) {
	const most, begun, one = 1 << 22, "[Script Info]\n[Events]\n", few + "Dialogue: 0:00:01.00,0:00:02.00,"
	fill := func(head, s string) []byte {
		return []byte(head + strings.Repeat(s, (most-len(head))/len(s)))
	}
	line := api.Fault{Err: api.ErrLine, Line: 3, Col: 1}
	// very many fields, each of another title
	const commas = 5000
	titles := ""
	for n := range commas {
		titles += strconv.Itoa(n) + ","
	}
	fields := begun + "Format: " + titles + "Start,End,Text\n"
	for _, x := range []struct {
		b    []byte
		f    api.Fault
		cues int
	}{
		{fill("", "\r"), api.Fault{Err: api.ErrHead, Line: most + 1, Col: 1}, 0},
		{fill("", "["), api.Fault{Err: api.ErrHead, Line: 1, Col: 1}, 0},
		{fill(few, "\r\n"), api.Fault{}, 0},
		{fill(few, "[\n"), api.Fault{}, 0},
		{fill(few, ";\n"), api.Fault{}, 0},
		{fill(few, "["), api.Fault{}, 0},
		{fill(few, "[Events]\n")[:most-9], api.Fault{}, 0},
		{fill(few, "Comment:"), api.Fault{}, 0},
		{fill(begun, ","), line, 0},
		{fill(begun+"Format: ", ","), line, 0},
		{fill(begun+"Format: ", " "), line, 0},
		{fill(begun+"Format: Start,End,Text", " "), api.Fault{}, 0},
		{fill(begun+"Format: Start,End,Text", " ,"), line, 0},
		{fill(begun+"Dialogue: ", ","), line, 0},
		{fill(few+"Dialogue: ", "x"), api.Fault{Err: api.ErrLine, Line: 4, Col: 1}, 0},
		{fill(few+"Dialogue: ", ","), api.Fault{Err: api.ErrTime, Line: 4, Col: 11}, 0},
		{fill(few+"Dialogue: 0:00:01.00,,", "x"), api.Fault{Err: api.ErrTime, Line: 4, Col: 22}, 0},
		{fill(fields+"Dialogue: ", ","), api.Fault{Err: api.ErrTime, Line: 4, Col: 11 + commas}, 0},
		{fill(fields, "Dialogue: \n"), api.Fault{Err: api.ErrLine, Line: 4, Col: 1}, 0},
		{[]byte(fields + "Dialogue: " + strings.Repeat("\xff,", commas) + "0:00:01.00,0:00:02.00,a"), api.Fault{}, 1},
		{[]byte(fields + "Dialogue: " + strings.Repeat("é,", commas) + "0:00:01.00,0:00:02.00," + strings.Repeat("x", 4097)), api.Fault{Err: api.ErrLong, Line: 4, Col: 33 + 2*commas}, 0},
		{fill(one, "x"), api.Fault{Err: api.ErrLong, Line: 4, Col: 33}, 0},
		{fill(one, ","), api.Fault{Err: api.ErrLong, Line: 4, Col: 33}, 0},
		{fill(one, "\xff"), api.Fault{Err: api.ErrLong, Line: 4, Col: 33}, 0},
		{fill(one, "\\N"), api.Fault{Err: api.ErrLong, Line: 4, Col: 33}, 0},
		{fill(one, "{\\b1}"), api.Fault{}, 1},
		{fill(one, "{\\b1}{\\b0}x"), api.Fault{Err: api.ErrLong, Line: 4, Col: 33}, 0},
		{fill(one+"{", "\\b1"), api.Fault{Err: api.ErrLong, Line: 4, Col: 33}, 0},
		{fill(one, "{\\b1"), api.Fault{Err: api.ErrLong, Line: 4, Col: 33}, 0},
		{fill(few, "Dialogue: 0:00:01.00,0:00:02.00,\n"), api.Fault{Err: api.ErrMany, Line: 4096 + 4, Col: 1}, 4096},
	} {
		if d, f := ass.Parse(x.b); f != x.f || len(d.Cues) != x.cues {
			t.Errorf("%.50q: %d, %v; want %d, %v", x.b, len(d.Cues), f, x.cues, x.f)
		}
	}
}

// inside tells whether a text lies in the memory of bytes.
func inside(part, all string) bool {
	at, from := uintptr(unsafe.Pointer(unsafe.StringData(part))), uintptr(unsafe.Pointer(unsafe.StringData(all)))
	return part != "" && at >= from && at < from+uintptr(len(all))
}

// shareList tells whether two lists have memory in common, spare room and all.
func shareList[T any](x, y []T) bool {
	x, y = x[:cap(x)], y[:cap(y)]
	for p := range x {
		for q := range y {
			if &x[p] == &y[q] {
				return true
			}
		}
	}
	return false
}

// TestHandedIn: P2: nothing that is handed in is changed, its spare room neither; what is answered is new memory.
func TestHandedIn(t *testing.T) {
	const text = "Dialogue: 3,0:00:01.00,0:00:02.00,Default,Ann and Bob,0,0,0,,{\\an8\\b1}some text\\N{\\i1}and another line of it\n"
	all := []byte(top + text + text + "spare room")
	b := all[:len(all)-len("spare room")]
	was := string(all)
	d, f := ass.Parse(b)
	if f != (api.Fault{}) || len(d.Cues) != 2 || string(all) != was {
		t.Fatal(d, f, string(all))
	}
	twin := cue.Twin(d)
	x, y := d.Cues[0].Text, d.Cues[1].Text
	whole := unsafe.String(&all[0], len(all))
	if inside(x.S, y.S) || inside(y.S, x.S) || inside(x.S, whole) || inside(d.Cues[0].Name, whole) || shareList(x.Spans, y.Spans) {
		t.Error("texts share memory")
	}
	clear(all)
	if !sameDoc(d, twin) {
		t.Errorf("%+v was %+v", d, twin)
	}
	room := append(slices.Clone(d.Cues), low(9, 8, "spare"), low(7, 6, "room"))
	handed := api.Doc{Cues: room[:2]}
	wasRoom := cue.Twin(api.Doc{Cues: room})
	kept, _, err := ass.Keep(handed)
	file, _, err2 := ass.Write(handed)
	wasFile := string(file)
	if err != nil || err2 != nil || !sameDoc(api.Doc{Cues: room}, wasRoom) {
		t.Fatal(err, err2, room)
	}
	for _, p := range kept.Cues {
		if inside(p.Text.S, x.S) || inside(p.Text.S, y.S) || shareList(p.Text.Spans, x.Spans) || shareList(p.Text.Spans, y.Spans) {
			t.Error("what is kept shares memory")
		}
		clear(p.Text.Spans[:cap(p.Text.Spans)])
	}
	clear(kept.Cues[:cap(kept.Cues)])
	if !sameDoc(api.Doc{Cues: room}, wasRoom) || string(file) != wasFile {
		t.Errorf("%+v was %+v", room, wasRoom)
	}
}

// TestAgain: P3 and P5: the same calls answer the same, whatever is done to an answer, behind errors, and behind files of other fields.
func TestAgain(t *testing.T) {
	d := doc(by(low(0, 1, "\x00"), 1, api.High, "Ann"), low(2, 3, "b"))
	bad := doc(low(0, 1, ""), low(1, 1, ""))
	const want = top + "Dialogue: 1,0:00:00.00,0:00:01.00,Default,Ann,0,0,0,,{\\an8} \nDialogue: 0,0:00:02.00,0:00:03.00,Default,,0,0,0,,b\n"
	for range 3 {
		_, _, err := ass.Keep(bad)
		_, _, err2 := ass.Write(bad)
		if !(wrong{1, api.ErrBack}).is(err) || !(wrong{1, api.ErrBack}).is(err2) {
			t.Fatal(err, err2)
		}
		*err.(*cue.Wrong), *err2.(*cue.Wrong) = cue.Wrong{}, cue.Wrong{}
		if x, f := ass.Parse([]byte(few + "Dialogue: 0:00:01.00,0:00:02.00,a\nx")); f != (api.Fault{Err: api.ErrLine, Line: 5, Col: 1}) || !sameDoc(x, doc(low(1, 2, "a"))) {
			t.Fatal(x, f)
		}
		if x, f := ass.Parse([]byte(want + "x")); f != (api.Fault{Err: api.ErrLine, Line: 8, Col: 1}) || !sameDoc(x, doc(by(low(0, 1, " "), 1, api.High, "Ann"), low(2, 3, "b"))) {
			t.Fatal(x, f)
		}
		if x, f := ass.Parse([]byte("[Script Info]\n[Events]\n")); f != (api.Fault{Err: api.ErrEnd, Line: 3, Col: 1}) || len(x.Cues) > 0 {
			t.Fatal(x, f)
		}
		b, lost, err := ass.Write(d)
		if err != nil || !slices.Equal(lost, []api.Loss{{Kind: api.LSign, N: 1}}) || string(b) != want {
			t.Fatalf("%q, %v, %v", b, lost, err)
		}
		clear(b[:cap(b)])
		clear(lost[:cap(lost)])
	}
}
