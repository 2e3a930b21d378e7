package frm_test

import (
	"slices"
	"strings"
	"testing"
	"unsafe"

	"surtitle/api"
	"surtitle/cue"
	"surtitle/frm"
)

// TestThereAndBack: P1604 (T4): Parse of what Write tells is what Keep tells, and the rate; Keep of that is that, and its file the same.
func TestThereAndBack(t *testing.T) {
	m := newMaker(11)
	for range 10000 {
		rate := m.rate()
		d := m.doc(6, rate)
		kept, _, err := frm.Keep(d, rate)
		b, _, err2 := frm.Write(d, rate)
		if err != nil || err2 != nil {
			t.Fatal(err, err2)
		}
		back, by, f := frm.Parse(b)
		if f != (api.Fault{}) || by != rate || !sameDoc(back, kept) {
			t.Fatalf("Write(%+v, %v): %q; Parse: %+v, %v, %v; want %+v", d, rate, b, back, by, f, kept)
		}
		again, lost, err := frm.Keep(back, rate)
		c, lost2, err2 := frm.Write(back, rate)
		if err != nil || err2 != nil || len(lost) > 0 || len(lost2) > 0 || !sameDoc(again, kept) || string(c) != string(b) {
			t.Fatalf("Keep(%+v): %+v, %v, %v; Write: %q, %v, %v; want %q", back, again, lost, err, c, lost2, err2, b)
		}
	}
}

// TestEveryRate: P1604 (T4): the first and the last frames of many rates go there and back; the one behind the last is none.
func TestEveryRate(t *testing.T) {
	m := newMaker(15)
	for range 3000 {
		rate := m.rate()
		last := int64(360000) * int64(rate.Num) / int64(rate.Den)
		zero, _ := timeWords(rate, 0)
		one, _ := timeWords(rate, 1)
		ahead, _ := timeWords(rate, last-1)
		end, ok := timeWords(rate, last)
		_, more := timeWords(rate, last+1)
		if !ok || more {
			t.Fatal(rate, last)
		}
		d := doc(at(zero, one, "a"), at(zero, end, "b"), at(ahead, end, "c"))
		b, lost, err := frm.Write(d, rate)
		if err != nil || len(lost) > 0 || string(b) != writeWords(d, rate) {
			t.Fatalf("%v: %q, %v, %v", rate, b, lost, err)
		}
		if back, by, f := frm.Parse(b); f != (api.Fault{}) || by != rate || !sameDoc(back, d) {
			t.Fatalf("%q: %v, %v, %v", b, back, by, f)
		}
		late := string(b) + "{" + frameWords(end, rate) + "}{" + frameWords(r(last+1, 1), slow) + "}"
		col := strings.LastIndex(late, "{") - strings.LastIndex(late, "\n") + 1
		if back, _, f := frm.Parse([]byte(late)); f != (api.Fault{Err: api.ErrTime, Line: 5, Col: col}) || !sameDoc(back, d) {
			t.Fatalf("%q: %v, %v", late, back, f)
		}
	}
}

// TestParsedIsRight: P11 (T1): whatever is read, faults behind it or not, is a right document that can be written by the rate that was read, and is read again.
func TestParsedIsRight(t *testing.T) {
	m, many := newMaker(12), 0
	for range 10000 {
		s := m.file(8)
		d, rate, f := frm.Parse([]byte(s))
		many += len(d.Cues)
		if err := cue.CheckDoc(d); err != nil {
			t.Fatalf("Parse(%q): %+v: %v", s, d, err)
		}
		if isRateWords(rate) != (f.Line != 1) {
			t.Fatalf("Parse(%q): %v, %v", s, rate, f)
		}
		if f.Line == 1 {
			continue
		}
		kept, lost, err := frm.Keep(d, rate)
		b, _, err2 := frm.Write(d, rate)
		if (err == nil) != (err2 == nil) {
			t.Fatalf("Parse(%q): %+v: %v, %v", s, d, err, err2)
		}
		if err != nil {
			continue
		}
		if slices.ContainsFunc(lost, func(x api.Loss) bool { return x.Kind != api.LSign }) {
			t.Fatalf("Parse(%q): %+v: %v", s, d, lost)
		}
		if back, by, f := frm.Parse(b); f != (api.Fault{}) || by != rate || !sameDoc(back, kept) {
			t.Fatalf("Parse(%q): %+v; then %q: %+v, %v, %v", s, d, b, back, by, f)
		}
	}
	if many < 10000 {
		t.Errorf("only %d cues: the files try too little", many)
	}
}

// lay tells the file of a head and lines: with these line ends, so many empty lines ahead of each but the head, and lines turned into others.
func lay(head string, lines []string, end string, gap func() int, turn func(line string) string) string {
	s := head + end
	for _, line := range lines {
		s += strings.Repeat(end, gap()) + turn(line) + end
	}
	return s + strings.Repeat(end, gap())
}

// TestOtherForms: P1605: other line ends, empty lines, noughts ahead of numbers change nothing but where the fault is.
func TestOtherForms(t *testing.T) {
	m, seen := newMaker(13), map[api.Errno]int{}
	none := func() int { return 0 }
	some := func() int { return m.dice.IntN(4) }
	as := func(line string) string { return line }
	noughts := func(line string) string {
		at := cueForm.FindStringSubmatch(line)
		if at == nil {
			return line
		}
		ahead := func(s string) string { return "{" + strings.Repeat("0", m.dice.IntN(10-len(s))) + s + "}" }
		return ahead(at[1]) + ahead(at[2]) + line[len(at[0]):]
	}
	for range 8000 {
		head, lines := m.head(), m.lines(8)
		plain := lay(head, lines, "\n", none, as)
		want, rate, fault := frm.Parse([]byte(plain))
		seen[fault.Err]++
		for n, x := range []struct {
			s    string
			line bool // where the fault is
			col  bool
		}{
			{lay(head, lines, "\r\n", none, as), true, true},
			{lay(head, lines, "\r", none, as), true, true},
			{strings.TrimSuffix(plain, "\n"), true, true},
			{lay(head, lines, "\n", some, as), false, true},
			{lay(head, lines, "\r\n", some, as), false, true},
			{lay(head, lines, "\r", some, as), false, true},
			{lay(head, lines, "\n", none, noughts), true, false},
			{lay(head, lines, "\r", some, noughts), false, false},
		} {
			d, by, f := frm.Parse([]byte(x.s))
			if f.Err != fault.Err || x.line && f.Line != fault.Line || x.col && f.Col != fault.Col || by != rate || !sameDoc(d, want) {
				t.Fatalf("%d: Parse(%q): %+v, %v, %v; want %+v, %v, %v", n, x.s, d, by, f, want, rate, fault)
			}
		}
		if strings.HasPrefix(head, "{") {
			if d, by, f := frm.Parse([]byte("\ufeff" + plain)); f != fault || by != rate || !sameDoc(d, want) {
				t.Fatalf("Parse(%q): %+v, %v, %v; want %+v, %v, %v", "\ufeff"+plain, d, by, f, want, rate, fault)
			}
		}
	}
	tried(t, seen, 20, api.OK, api.ErrHead, api.ErrRate, api.ErrLine, api.ErrTime, api.ErrBack, api.ErrOrder, api.ErrLong, api.ErrMany)
}

// TestNothingPanics: P1: any numbers and bytes at all; P4: beside an error stands nothing.
func TestNothingPanics(t *testing.T) {
	m := newMaker(14)
	number := func() int { return int(m.dice.Uint64()) >> m.dice.IntN(64) }
	for range 20000 {
		rate := m.rate()
		var d api.Doc
		for range m.dice.IntN(4) {
			x := m.cue(rate)
			if m.half() {
				x.Start, x.End = r(int64(number()), int64(number())), r(int64(number()), int64(number()))
			}
			if m.half() {
				x.Lane, x.Side = number(), number()
			}
			for range m.dice.IntN(2) {
				x.Text.Spans = append(x.Text.Spans, api.Span{From: number(), To: number(), Kind: number(), Value: number()})
			}
			d.Cues = append(d.Cues, x)
		}
		if m.half() {
			rate = api.Rate{Num: number(), Den: number(), Drop: m.half()}
		}
		can, e := frm.Can(rate)
		if (e == api.OK) != isRateWords(rate) || e != api.OK && can != (api.Can{}) {
			t.Fatalf("%v: %+v, %v", rate, can, e)
		}
		kept, lost, err := frm.Keep(d, rate)
		b, lost2, err2 := frm.Write(d, rate)
		if (err == nil) != (err2 == nil) || (err == nil) != (e == api.OK && cue.CheckDoc(d) == nil) {
			t.Fatalf("%+v, %v: %v, %v", d, rate, err, err2)
		}
		if err != nil && (len(kept.Cues) > 0 || len(lost) > 0 || len(b) > 0 || len(lost2) > 0) {
			t.Fatalf("%+v, %v: %v, %v, %q, %v", d, rate, kept, lost, b, lost2)
		}
		bytes := make([]byte, m.dice.IntN(40))
		for i := range bytes {
			bytes[i] = byte(m.dice.Uint64())
		}
		frm.Parse(bytes)
		frm.Parse(append([]byte("{1}{1}25\n{0}{1}"), bytes...))
	}
	frm.Parse(nil)
}

// TestGreat: P1: files of as many bytes as may be of one kind of thing are read in time.
func TestGreat(t *testing.T) {
	const most, head, one = 1 << 22, "{1}{1}25\n", "{1}{1}25\n{25}{50}"
	fill := func(head, s string) []byte {
		return []byte(head + strings.Repeat(s, (most-len(head))/len(s)))
	}
	for _, x := range []struct {
		b    []byte
		f    api.Fault
		cues int
	}{
		{fill("", "\r"), api.Fault{Err: api.ErrHead, Line: 1, Col: 1}, 0},
		{fill("", "{1}"), api.Fault{Err: api.ErrRate, Line: 1, Col: 7}, 0},
		{fill("{1}{1}", "1"), api.Fault{Err: api.ErrRate, Line: 1, Col: 7}, 0},
		{fill(head, "\r"), api.Fault{}, 0},
		{fill(head, "\r\n"), api.Fault{}, 0},
		{fill(head, "{"), api.Fault{Err: api.ErrLine, Line: 2, Col: 1}, 0},
		{fill(head, "0"), api.Fault{Err: api.ErrLine, Line: 2, Col: 1}, 0},
		{fill(head+"{", "0"), api.Fault{Err: api.ErrLine, Line: 2, Col: 1}, 0},
		{fill(head+"{0}{", "0"), api.Fault{Err: api.ErrLine, Line: 2, Col: 1}, 0},
		{fill(head+"{0}", "{1}"), api.Fault{Err: api.ErrLong, Line: 2, Col: 7}, 0},
		{fill(one, "x"), api.Fault{Err: api.ErrLong, Line: 2, Col: 9}, 0},
		{fill(one, "|"), api.Fault{Err: api.ErrLong, Line: 2, Col: 9}, 0},
		{fill(one, "\xff"), api.Fault{Err: api.ErrLong, Line: 2, Col: 9}, 0},
		{fill(one, "{y:b}"), api.Fault{}, 1},
		{fill(one, "{c:$000000}"), api.Fault{}, 1},
		{fill(one, "{y:b}|"), api.Fault{Err: api.ErrLong, Line: 2, Col: 9}, 0},
		{fill(one+"{y:", "b,"), api.Fault{Err: api.ErrLong, Line: 2, Col: 9}, 0},
		{fill(one, "|{y:"), api.Fault{Err: api.ErrLong, Line: 2, Col: 9}, 0},
		{fill(head, "{25}{50}\n"), api.Fault{Err: api.ErrMany, Line: 4096 + 2, Col: 1}, 4096},
	} {
		if d, _, f := frm.Parse(x.b); f != x.f || len(d.Cues) != x.cues {
			t.Errorf("%.50q: %d, %v; want %d, %v", x.b, len(d.Cues), f, x.cues, x.f)
		}
	}
}

// inside tells whether a text lies in the memory of bytes.
func inside(part, all string) bool {
	at, from := uintptr(unsafe.Pointer(unsafe.StringData(part))), uintptr(unsafe.Pointer(unsafe.StringData(all)))
	return part != "" && at >= from && at < from+uintptr(len(all))
}

// shareList tells whether two lists have memory in common, spare room and all.
func shareList[T any](x, y []T) bool {
	x, y = x[:cap(x)], y[:cap(y)]
	for p := range x {
		for q := range y {
			if &x[p] == &y[q] {
				return true
			}
		}
	}
	return false
}

// TestHandedIn: P2: nothing that is handed in is changed, its spare room neither; what is answered is new memory.
func TestHandedIn(t *testing.T) {
	const text = "{25}{50}{y:b}some text|{y:i}and another line of it\n"
	all := []byte("{1}{1}25\n" + text + text + "spare room")
	b := all[:len(all)-len("spare room")]
	was := string(all)
	d, rate, f := frm.Parse(b)
	if f != (api.Fault{}) || rate != pal || len(d.Cues) != 2 || string(all) != was {
		t.Fatal(d, rate, f, string(all))
	}
	twin := cue.Twin(d)
	x, y := d.Cues[0].Text, d.Cues[1].Text
	if inside(x.S, y.S) || inside(y.S, x.S) || inside(x.S, unsafe.String(&all[0], len(all))) || shareList(x.Spans, y.Spans) {
		t.Error("texts share memory")
	}
	clear(all)
	if !sameDoc(d, twin) {
		t.Errorf("%+v was %+v", d, twin)
	}
	room := append(slices.Clone(d.Cues), low(9, 8, "spare"), low(7, 6, "room"))
	handed := api.Doc{Cues: room[:2]}
	wasRoom := cue.Twin(api.Doc{Cues: room})
	kept, _, err := frm.Keep(handed, pal)
	file, _, err2 := frm.Write(handed, pal)
	wasFile := string(file)
	if err != nil || err2 != nil || !sameDoc(api.Doc{Cues: room}, wasRoom) {
		t.Fatal(err, err2, room)
	}
	for _, p := range kept.Cues {
		if inside(p.Text.S, x.S) || inside(p.Text.S, y.S) || shareList(p.Text.Spans, x.Spans) || shareList(p.Text.Spans, y.Spans) {
			t.Error("what is kept shares memory")
		}
		clear(p.Text.Spans[:cap(p.Text.Spans)])
	}
	clear(kept.Cues[:cap(kept.Cues)])
	if !sameDoc(api.Doc{Cues: room}, wasRoom) || string(file) != wasFile {
		t.Errorf("%+v was %+v", room, wasRoom)
	}
}

// TestAgain: P3 and P5: the same calls answer the same, whatever is done to an answer, and behind errors and other rates.
func TestAgain(t *testing.T) {
	d := doc(low(0, 1, "\x00"), low(2, 3, "b"))
	bad := doc(low(0, 1, ""), low(1, 1, ""))
	for range 3 {
		_, _, err := frm.Keep(bad, pal)
		_, _, err2 := frm.Write(bad, pal)
		if !(wrong{1, api.ErrBack}).is(err) || !(wrong{1, api.ErrBack}).is(err2) {
			t.Fatal(err, err2)
		}
		*err.(*cue.Wrong), *err2.(*cue.Wrong) = cue.Wrong{}, cue.Wrong{}
		_, _, err = frm.Keep(d, api.Rate{})
		if !(wrong{0, api.ErrRate}).is(err) {
			t.Fatal(err)
		}
		*err.(*cue.Wrong) = cue.Wrong{}
		for rate, want := range map[api.Rate]string{pal: "{1}{1}25\n{0}{25} \n{50}{75}b\n", slow: "{1}{1}1\n{0}{1} \n{2}{3}b\n"} {
			if x, by, f := frm.Parse([]byte(want + "x")); f != (api.Fault{Err: api.ErrLine, Line: 4, Col: 1}) || by != rate || !sameDoc(x, doc(low(0, 1, " "), low(2, 3, "b"))) {
				t.Fatal(x, by, f)
			}
			b, lost, err := frm.Write(d, rate)
			if err != nil || !slices.Equal(lost, []api.Loss{{Kind: api.LSign, N: 1}}) || string(b) != want {
				t.Fatalf("%q, %v, %v", b, lost, err)
			}
			clear(b[:cap(b)])
			clear(lost[:cap(lost)])
		}
	}
}
