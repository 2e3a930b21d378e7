package mark_test

import (
	"math/rand/v2"
	"slices"
	"strings"
	"testing"
	"unsafe"

	"surtitle/api"
	"surtitle/mark"
	"surtitle/style"
)

// TestThereAndBack: P806: what is printed is read back, whatever is kept is printed, and kept again.
func TestThereAndBack(t *testing.T) {
	m := newMaker(5)
	for range 6000 {
		x := m.text(10, 8)
		for _, dialect := range dialects() {
			for _, blank := range []bool{true, false} {
				k := keep(dialect, x, blank)
				if k.e != api.OK {
					t.Fatalf("Keep(%d, %+v): %v", dialect, x, k.e)
				}
				if again := keep(dialect, k.text, blank); !again.is(kept{text: k.text}) {
					t.Fatalf("Keep(%d, %+v, %v): %+v; then %+v", dialect, x, blank, k, again)
				}
				y := mark.Marked{Text: k.text}
				if dialect == api.DVoice {
					y.Name = m.of([]string{"Ann", "<", ">", "&", "&lt;", "\xc3", "\xa9"}, 4)
				}
				if dialect == api.DBrace {
					y.Side = m.dice.IntN(2)
				}
				holdBack(t, dialect, y)
			}
		}
	}
}

// holdBack complains if this is not printed, or not read back.
func holdBack(t *testing.T, dialect int, m mark.Marked) {
	t.Helper()
	s, e := mark.Print(dialect, m)
	if e != api.OK {
		t.Fatalf("Print(%d, %+v): %v", dialect, m, e)
	}
	got, e := mark.Parse(dialect, s)
	norm, f := style.Norm(m.Text)
	if e != api.OK || f != api.OK || got.Name != m.Name || got.Side != m.Side || !sameText(got.Text, norm) {
		t.Fatalf("%d: %+v is printed as %q, and read as %+v, %v", dialect, m, s, got, e)
	}
}

// TestBackOfMany: P806 of texts that are as long, and have as many spans, as may be.
func TestBackOfMany(t *testing.T) {
	full := strings.Repeat("\n\xc3", api.MaxText/2)
	for _, dialect := range dialects() {
		holdBack(t, dialect, plain(full))
		holdBack(t, dialect, plain(full, b(0, 4095), i(0, 4095), u(0, 4095), c(0xffffff, 0, 4095)))
	}
	holdBack(t, api.DVoice, named(strings.Repeat("&", 64), strings.Repeat("<", api.MaxText)))
	for _, dialect := range []int{api.DAngle, api.DVoice, api.DBrace} {
		holdBack(t, dialect, plain(strings.Repeat("x", 512), comb(256)...))
	}
}

// TestTold: P807: nothing is told just where what is kept is alike.
func TestTold(t *testing.T) {
	m, alike := newMaker(6), 0
	for range 6000 {
		x := m.text(6, 4)
		for _, dialect := range dialects() {
			for _, blank := range []bool{true, false} {
				k := keep(dialect, x, blank)
				nothing := k.signs == 0 && k.lines == 0 && k.spans == 0
				if k.e != api.OK || k.signs < 0 || k.lines < 0 || k.spans < 0 || nothing != style.Same(k.text, x) {
					t.Fatalf("Keep(%d, %+v, %v): %+v", dialect, x, blank, k)
				}
				if nothing && len(x.Spans) > 0 {
					alike++
				}
			}
		}
	}
	if alike < 5000 {
		t.Errorf("only %d are alike: the texts try too little", alike)
	}
}

// TestAnyBytes: P808 and P1: any bytes are read; those that can't begin a form stand for themselves.
func TestAnyBytes(t *testing.T) {
	const often = "<>/bv &lt;|{y:,}\\Nn18c\xc3\xa9\n"
	dice := rand.New(rand.NewPCG(7, 8))
	for range 20000 {
		b := make([]byte, dice.IntN(40))
		for n := range b {
			b[n] = byte(dice.Uint32())
			if dice.IntN(2) == 0 {
				b[n] = often[dice.IntN(len(often))]
			}
		}
		for _, dialect := range dialects() {
			m, e := mark.Parse(dialect, string(b))
			if e != api.OK || style.Check(m.Text) != api.OK {
				t.Fatalf("Parse(%d, %q): %+v, %v", dialect, b, m, e)
			}
			bare := string(slices.DeleteFunc(slices.Clone(b), func(c byte) bool { return strings.IndexByte(`<&|{\`, c) >= 0 }))
			if m, e := mark.Parse(dialect, bare); e != api.OK || m.Text.S != bare || len(m.Text.Spans) > 0 || m.Name != "" || m.Side != api.Low {
				t.Fatalf("Parse(%d, %q): %+v, %v", dialect, bare, m, e)
			}
		}
	}
	for r := range rune(0x3000) {
		if strings.ContainsRune(`<&|{\`, r) {
			continue
		}
		s := string(r) + "b>" + string(r) + "1}" + string(r)
		for _, dialect := range dialects() {
			if m, e := mark.Parse(dialect, s); e != api.OK || m.Text.S != s {
				t.Fatalf("Parse(%d, %q): %+v, %v", dialect, s, m, e)
			}
		}
	}
}

// TestNothingPanics: P1: any numbers and kinds at all.
func TestNothingPanics(t *testing.T) {
	m := newMaker(8)
	number := func() int {
		if m.dice.IntN(3) > 0 {
			return m.dice.IntN(6)
		}
		return int(m.dice.Uint64()) >> m.dice.IntN(64)
	}
	for range 20000 {
		x := mark.Marked{Text: m.text(5, 3), Side: number(), Name: m.of([]string{"a", "\n", "\xff", "&"}, 70)}
		for range m.dice.IntN(3) {
			x.Text.Spans = append(x.Text.Spans, api.Span{From: number(), To: number(), Kind: number(), Value: number()})
		}
		dialect := number()
		mark.Parse(dialect, x.Text.S)
		mark.Keep(dialect, x.Text, m.dice.IntN(2) == 0)
		mark.Name(dialect, x.Name)
		mark.Print(dialect, x)
	}
}

// TestLongFiles: P1: texts of as many bytes as may be are read, whatever forms they nearly have.
func TestLongFiles(t *testing.T) {
	for _, part := range []string{
		"<b>", "<b></b>", "<", "<c.000000>", "<v ", "&", "|", "|{y:", "|x", "{y:b,", "{y:b}", "b,", `{\b1`, `\b1`, `{\b1}`, "{", `\`, "\xc3<b>", "\xc3",
	} {
		for _, front := range []string{"", "<v ", "{y:", "{"} {
			s := front + strings.Repeat(part, (api.MaxFile-len(front))/len(part))
			for _, dialect := range dialects() {
				m, e := mark.Parse(dialect, s)
				if e != api.OK && e != api.ErrLong && e != api.ErrMany || e != api.OK && m.Text.S != "" {
					t.Errorf("Parse(%d, %q ..): %v", dialect, s[:20], e)
				}
			}
		}
	}
}

// TestHandedIn: P2: spans that are handed in are not changed, nor what lies behind them, and not kept.
func TestHandedIn(t *testing.T) {
	room := []api.Span{i(2, 4), c(1, 0, 2), b(0, 4), u(9, 9), k(8, 8)}
	was := slices.Clone(room)
	x := text("a\nb\n", room[:3]...)
	var answers []api.Text
	for _, dialect := range dialects() {
		answers = append(answers, keep(dialect, x, true).text, keep(dialect, x, false).text)
		if _, e := mark.Print(dialect, mark.Marked{Text: x}); e != api.OK {
			t.Error(e)
		}
	}
	if !slices.Equal(room, was) {
		t.Errorf("%v was %v", room, was)
	}
	var copies []api.Text
	for _, y := range answers {
		copies = append(copies, text(y.S, slices.Clone(y.Spans)...))
	}
	clear(room)
	for n, y := range answers {
		if !sameText(y, copies[n]) {
			t.Errorf("%v was %v", y, copies[n])
		}
	}
}

// inside tells whether a text lies in the memory of another one.
func inside(part, s string) bool {
	at, from := uintptr(unsafe.Pointer(unsafe.StringData(part))), uintptr(unsafe.Pointer(unsafe.StringData(s)))
	return part != "" && at >= from && at < from+uintptr(len(s))
}

// TestAnswersAreNew: P2: texts that are answered are new memory.
func TestAnswersAreNew(t *testing.T) {
	s := strings.Repeat("a line of text", 4)
	for _, dialect := range dialects() {
		m, _ := mark.Parse(dialect, s)
		k := keep(dialect, text(s), true)
		printed, _ := mark.Print(dialect, plain(s))
		name, _, _ := mark.Name(dialect, s)
		for _, got := range []string{m.Text.S, k.text.S, printed} {
			if got != s || inside(got, s) {
				t.Errorf("dialect %d: %q, or it shares the text's memory", dialect, got)
			}
		}
		if inside(name, s) {
			t.Errorf("dialect %d: the name shares the text's memory", dialect)
		}
	}
	voice := "<v " + s + ">" + s
	if m, e := mark.Parse(api.DVoice, voice); e != api.OK || m.Name != s || inside(m.Name, voice) || inside(m.Text.S, voice) {
		t.Errorf("%+v, %v, or it shares the text's memory", m, e)
	}
	if name, gone, e := mark.Name(api.DVoice, s); name != s || gone || e != api.OK {
		t.Errorf("%q, %v, %v", name, gone, e)
	}
}
