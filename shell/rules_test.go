package shell_test

import (
	"bytes"
	"runtime"
	"slices"
	"strings"
	"sync"
	"testing"
	"unicode/utf8"
	"unsafe"

	"surtitle/api"
	"surtitle/shell"
)

// inside tells whether a text lies in the memory of another one.
func inside(part, s string) bool {
	at, from := uintptr(unsafe.Pointer(unsafe.StringData(part))), uintptr(unsafe.Pointer(unsafe.StringData(s)))
	return part != "" && at >= from && at < from+uintptr(len(s))
}

// TestMemory: P2: what is handed in is not changed, its spare room neither; answers are new memory.
func TestMemory(t *testing.T) {
	line := strings.Repeat("longer words ", 9) + `"quoted words that are long" "" "\x41"`
	twin := strings.Clone(line)
	one, _ := shell.Words(line)
	two, _ := shell.Words(line)
	if line != twin || len(one) != 21 {
		t.Fatalf("%q, %q", line, one)
	}
	for _, word := range slices.Concat(one[:cap(one)], two[:cap(two)]) {
		if inside(word, line) {
			t.Errorf("%q lies in the line", word)
		}
	}
	clear(one[:cap(one)])
	if again, e := shell.Words(line); e != api.OK || !slices.Equal(two, again) {
		t.Errorf("%q, %q", two, again)
	}
	b := append(make([]byte, 0, 64), "a\xff\"\n b"...)
	was := bytes.Clone(b[:cap(b)])
	q := shell.Quote(b)
	if !bytes.Equal(b[:cap(b)], was) {
		t.Errorf("%q", b[:cap(b)])
	}
	clear(b[:cap(b)])
	if q != `"a\xff\"\n b"` {
		t.Errorf("%q", q)
	}
	plain := []byte("only signs that stand as they are")
	q = shell.Quote(plain)
	clear(plain)
	if q != `"only signs that stand as they are"` {
		t.Errorf("%q", q)
	}
}

// TestZero: P4: beside an error there are no words.
func TestZero(t *testing.T) {
	for _, s := range []string{`a b "c`, `a "b" c"`, `"a" "b"c`} {
		if l, e := shell.Words(s); l != nil || e != api.ErrWord {
			t.Errorf("%q: %q, %v", s, l, e)
		}
	}
}

// TestAnyBytes: P1: any bytes are answered, with as many lines as they have (P2203).
func TestAnyBytes(t *testing.T) {
	m := newMaker(11)
	for range 3000 {
		var s []byte
		for _, x := range []byte(m.script(1 + m.dice.IntN(20))) {
			switch {
			case m.one(60):
				s = append(s, byte(m.dice.IntN(256)))
			case !m.one(60):
				s = append(s, x)
			}
		}
		got := shell.Run(string(s))
		many := bytes.Count(s, []byte("\n"))
		if len(s) > 0 && s[len(s)-1] != '\n' {
			many++
		}
		if strings.Count(got, "\n") != many || many > 0 && !strings.HasSuffix(got, "\n") {
			t.Fatalf("%q: %q", s, got)
		}
		shell.Words(string(s))
	}
	holdRun(t, strings.Repeat("\"", 999)+"\n"+strings.Repeat("\\", 999)+"\n"+strings.Repeat("new a ", 999), map[string]int{})
	holdRun(t, "new a\nlay a 0 0 1 x\nretime a b"+strings.Repeat(" 1", 20001)+"\nretime a b"+strings.Repeat(" 1", 10000), map[string]int{})
}

// TestAnswers: P2203: each line's answer hangs on the lines up to it alone. An answer says no more than it should: signs alone, and no blank where nothing follows.
func TestAnswers(t *testing.T) {
	m := newMaker(12)
	for range 300 {
		s := m.script(50)
		lines := strings.SplitAfter(s, "\n")
		all := strings.SplitAfter(shell.Run(s), "\n")
		n := m.dice.IntN(len(lines))
		front := strings.Join(lines[:n], "")
		if got := shell.Run(front); got != strings.Join(all[:n], "") {
			t.Fatalf("%q: %q; want %q", front, got, all[:n])
		}
		if got := shell.Run(front + "docs x\n" + m.script(9)); !strings.HasPrefix(got, strings.Join(all[:n], "")+"word\n") {
			t.Fatalf("%q, and other lines: %q; want %q", front, got, all[:n])
		}
		for _, answer := range all {
			line := strings.TrimSuffix(answer, "\n")
			if !utf8.ValidString(line) || strings.ContainsFunc(line, func(r rune) bool { return r < 32 }) || line != strings.Trim(line, " ") {
				t.Fatalf("%q", answer)
			}
		}
	}
}

// TestSame: P3, P8: the same script is answered the same, whatever other ones are played at the same time.
func TestSame(t *testing.T) {
	m := newMaker(13)
	var scripts, answers []string
	for range 40 {
		s := m.script(60)
		scripts, answers = append(scripts, s), append(answers, shell.Run(s))
	}
	before := runtime.NumGoroutine()
	var all sync.WaitGroup
	for range 4 {
		for n, s := range scripts {
			all.Go(func() {
				if got := shell.Run(s); got != answers[n] {
					t.Errorf("%q: %q; want %q", s, got, answers[n])
				}
			})
		}
	}
	all.Wait()
	if n := runtime.NumGoroutine(); n > before {
		t.Errorf("%d goroutines; %d were there ahead", n, before)
	}
}

// TestQuoted: P2204: a quoted text has no byte below 32 and no bad sign; Words tell its bytes, with a line behind it, too.
func TestQuoted(t *testing.T) {
	m := newMaker(14)
	lines := []string{"", " ", "a", "\t\"b c\" d", "# \"", "\"\\x00\" # x"}
	for n := range 256 * 256 {
		b := []byte{byte(n >> 8), byte(n)}
		if n%7 == 0 {
			b = append(b, m.bytes(6)...)
		}
		q := shell.Quote(b)
		if !utf8.ValidString(q) || strings.ContainsFunc(q, func(r rune) bool { return r < 32 }) {
			t.Fatalf("%q: %q", b, q)
		}
		if l, e := shell.Words(q); e != api.OK || len(l) != 1 || l[0] != string(b) {
			t.Fatalf("%q: %s: %q, %v", b, q, l, e)
		}
		line := lines[n%len(lines)]
		want, _ := shell.Words(line)
		if l, e := shell.Words(q + " " + line); e != api.OK || !slices.Equal(l, append([]string{string(b)}, want...)) {
			t.Fatalf("%q: %s %s: %q, %v", b, q, line, l, e)
		}
	}
	for r := rune(0); r <= 0x10FFFF; r += 1 + r/50 {
		s := string(r) + "\xf0" + string(r)
		if l, e := shell.Words(shell.Quote([]byte(s))); e != api.OK || len(l) != 1 || l[0] != s {
			t.Fatalf("%q: %q, %v", s, l, e)
		}
	}
}

// TestTexts: P2204: what texts a script has come back out of its answers, whatever bytes they have.
func TestTexts(t *testing.T) {
	m := newMaker(15)
	for range 500 {
		s := m.bytes(9)
		answer := shell.Run("new a\nlay a 0 0 1 " + m.word(s) + "\ncues a")
		_, answer, _ = strings.Cut(answer, "\nok 0-1/0/low/\"\"/")
		l, e := shell.Words(strings.TrimSuffix(answer, "\n"))
		if e != api.OK || len(l) != 1 || l[0] != s {
			t.Fatalf("%q: %q: %q, %v", s, answer, l, e)
		}
	}
}
