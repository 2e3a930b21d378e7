package utf_test

import (
	"iter"
	"slices"
	"strings"
	"testing"

	"surtitle/api"
	"surtitle/utf"
)

// edges are bytes at which the rules of encodings change, and the line ends.
const edges = "\x00\n\ra\x7f\x80\x82\x8f\x90\x9f\xa0\xac\xbd\xbf\xc0\xc1\xc2\xdf\xe0\xe1\xe2\xec\xed\xee\xef\xf0\xf1\xf3\xf4\xf5\xff"

// samples are texts that are longer than what allTexts makes.
var samples = []string{
	"",
	"plain",
	"a\xc3\xa9\xc3\xf0\x9f\x98\x80",
	"\xf0\x9f\x98\x80\xf0\x9f\x98\x80",
	"\xf4\x8f\xbf\xbf\xee\x80\x80\xed\x9f\xbf",
	"\xf0\x9f\x98\xf0\x9f\x98\x80\x98",
	"\xef\xbf\xbd\xef\xbf\xef\xbf\xbd\xbd",
	"\xe2\x82\xe2\x82\xac\xac\xe2",
	"\xed\xa0\x80\xed\xb0\x80",
	"\xf4\x90\x80\x80\xf5\x80\x80\x80",
	"\xf8\x88\x80\x80\x80",
	"\xc0\x80\xe0\x80\x80\xf0\x80\x80\x80",
	"one\r\ntwo\rthree\n\xc3\n\n\r\r\n",
	"\xd7\xa9\xd7\x9c\xd7\x95\xd7\x9d \xe4\xbd\xa0\xe5\xa5\xbd \xf0\x9f\x91\x8b\xf0\x9f\x8f\xbd\xc3",
}

// allTexts goes over all texts of at most that many bytes, each one of those of bytes.
func allTexts(bytes string, most int) iter.Seq[string] {
	return func(yield func(string) bool) {
		var grow func(front string) bool
		grow = func(front string) bool {
			if !yield(front) {
				return false
			}
			if len(front) == most {
				return true
			}
			for i := range len(bytes) {
				if !grow(front + bytes[i:i+1]) {
					return false
				}
			}
			return true
		}
		grow("")
	}
}

// manyTexts goes over short texts of all kinds, and the samples.
func manyTexts() iter.Seq[string] {
	return func(yield func(string) bool) {
		for _, s := range samples {
			if !yield(s) {
				return
			}
		}
		for s := range allTexts(edges, 3) {
			if !yield(s) {
				return
			}
		}
	}
}

// wellFormed tells, by W1's own words, the rune that b encodes as a whole; false: it is no valid encoding.
func wellFormed(b string) (rune, bool) {
	if len(b) == 1 {
		return rune(b[0]), b[0] < 0x80
	}
	lead := []struct{ mark, mask byte }{{0xc0, 0xe0}, {0xe0, 0xf0}, {0xf0, 0xf8}}[len(b)-2]
	if b[0]&lead.mask != lead.mark {
		return 0, false
	}
	r := rune(b[0] &^ lead.mask)
	for i := 1; i < len(b); i++ {
		if b[i]&0xc0 != 0x80 {
			return 0, false
		}
		r = r<<6 | rune(b[i]&0x3f)
	}
	least := []rune{0x80, 0x800, 0x10000}[len(b)-2]
	return r, r >= least && r <= 0x10ffff && (r < 0xd800 || r > 0xdfff)
}

// signsOf tells a text's signs by W1's own words.
func signsOf(s string) []api.Sign {
	var l []api.Sign
	for at := 0; at < len(s); {
		g := api.Sign{At: at, Len: 1, Rune: 0xfffd, Bad: true}
		for n := 1; n <= 4 && at+n <= len(s); n++ {
			if r, ok := wellFormed(s[at : at+n]); ok {
				g = api.Sign{At: at, Len: n, Rune: r}
			}
		}
		l = append(l, g)
		at += g.Len
	}
	return l
}

func runeSigns(l []api.Sign) []rune {
	var runes []rune
	for _, g := range l {
		runes = append(runes, g.Rune)
	}
	return runes
}

// TestSignsExamples: P101, and the examples 1 and 2.
func TestSignsExamples(t *testing.T) {
	bad := func(n int) []api.Sign {
		var l []api.Sign
		for at := range n {
			l = append(l, api.Sign{At: at, Len: 1, Rune: 0xfffd, Bad: true})
		}
		return l
	}
	for _, c := range []struct {
		s     string
		want  []api.Sign
		pairs int
	}{
		{"", nil, 0},
		{"a\xc3\xa9\xc3\xf0\x9f\x98\x80", []api.Sign{{At: 0, Len: 1, Rune: 'a'}, {At: 1, Len: 2, Rune: 0xe9}, {At: 3, Len: 1, Rune: 0xfffd, Bad: true}, {At: 4, Len: 4, Rune: 0x1f600}}, 5},
		{"\x00", []api.Sign{{At: 0, Len: 1}}, 1},
		{"\xc0\x80", bad(2), 2},
		{"\xed\xa0\x80", bad(3), 3},
		{"\xf4\x90\x80\x80", bad(4), 4},
		{"\xe2\x82", bad(2), 2},
		{"\xef\xbf\xbd", []api.Sign{{At: 0, Len: 3, Rune: 0xfffd}}, 1},
		{"\xef\xbf\xbf", []api.Sign{{At: 0, Len: 3, Rune: 0xffff}}, 1},
		{"\xf0\x90\x80\x80", []api.Sign{{At: 0, Len: 4, Rune: 0x10000}}, 2},
		{"\xf4\x8f\xbf\xbf", []api.Sign{{At: 0, Len: 4, Rune: 0x10ffff}}, 2},
	} {
		if l := slices.Collect(utf.Signs(c.s)); !slices.Equal(l, c.want) {
			t.Errorf("Signs(%x): %v; want %v", c.s, l, c.want)
		}
		if n := utf.Count(c.s); n != len(c.want) {
			t.Errorf("Count(%x): %d; want %d", c.s, n, len(c.want))
		}
		if n := utf.Pairs(c.s); n != c.pairs {
			t.Errorf("Pairs(%x): %d; want %d", c.s, n, c.pairs)
		}
	}
}

// TestSignsAny: P101 and P107, of all short texts of edges.
func TestSignsAny(t *testing.T) {
	for s := range allTexts(edges, 4) {
		want := signsOf(s)
		end, i, pairs := 0, 0, 0
		for g := range utf.Signs(s) {
			if i >= len(want) || g != want[i] || g.At != end {
				t.Fatalf("Signs(%x): %v, the one at %d; want %v", s, g, i, want)
			}
			end = g.At + g.Len
			pairs++
			if g.Rune >= 0x10000 {
				pairs++
			}
			i++
		}
		if end != len(s) || i != len(want) || utf.Count(s) != i || utf.Pairs(s) != pairs {
			t.Fatalf("%x: %d signs up to %d, Count %d, Pairs %d; want %v", s, i, end, utf.Count(s), utf.Pairs(s), want)
		}
	}
}

// TestEveryRune: P101, P103 and P109, of each rune that has an encoding, and of those that have none.
func TestEveryRune(t *testing.T) {
	for r := rune(0); r <= 0x10ffff; r++ {
		s := utf.Text([]rune{r})
		if r >= 0xd800 && r <= 0xdfff {
			if s != "\xef\xbf\xbd" {
				t.Fatalf("Text(%x): %x; want ef bf bd", r, s)
			}
			continue
		}
		if got, ok := wellFormed(s); !ok || got != r {
			t.Fatalf("Text(%x): %x", r, s)
		}
		if l := slices.Collect(utf.Signs(s)); len(l) != 1 || l[0] != (api.Sign{Len: len(s), Rune: r}) {
			t.Fatalf("Signs(%x): %v", s, l)
		}
		if l := utf.Runes(s); !slices.Equal(l, []rune{r}) {
			t.Fatalf("Runes(%x): %x", s, l)
		}
	}
}

// TestRunes: P103, and the example 6.
func TestRunes(t *testing.T) {
	for _, c := range []struct {
		l    []rune
		want string
	}{
		{nil, ""},
		{[]rune{}, ""},
		{[]rune{-1, 55296, 97}, "\xef\xbf\xbd\xef\xbf\xbda"},
		{[]rune{0xdfff, 0x110000, 0x7fffffff, -0x80000000}, strings.Repeat("\xef\xbf\xbd", 4)},
		{[]rune{0, 0x7f, 0x80, 0x7ff, 0x800, 0xd7ff, 0xe000, 0xfffd, 0xffff, 0x10000, 0x10ffff}, "\x00\x7f\xc2\x80\xdf\xbf\xe0\xa0\x80\xed\x9f\xbf\xee\x80\x80\xef\xbf\xbd\xef\xbf\xbf\xf0\x90\x80\x80\xf4\x8f\xbf\xbf"},
	} {
		if s := utf.Text(c.l); s != c.want {
			t.Errorf("Text(%x): %x; want %x", c.l, s, c.want)
		}
	}
	for _, c := range []struct {
		s    string
		want []rune
	}{
		{"", nil},
		{"a\xc3\xd7\x90", []rune{'a', 0xfffd, 0x5d0}},
		{"\xed\xa0\x80", []rune{0xfffd, 0xfffd, 0xfffd}},
		{"\xef\xbf\xbd\xff", []rune{0xfffd, 0xfffd}},
	} {
		if l := utf.Runes(c.s); !slices.Equal(l, c.want) {
			t.Errorf("Runes(%x): %x; want %x", c.s, l, c.want)
		}
	}
}

// TestRepair: P104.
func TestRepair(t *testing.T) {
	for _, c := range []struct {
		s, whole string
		bads     []int
	}{
		{"", "", nil},
		{"a\xc3\xa9", "a\xc3\xa9", nil},
		{"a\xc3", "a\xef\xbf\xbd", []int{1}},
		{"\xe2\x82a\xff", "\xef\xbf\xbd\xef\xbf\xbda\xef\xbf\xbd", []int{0, 1, 3}},
		{"\xef\xbf\xbd\xbd", "\xef\xbf\xbd\xef\xbf\xbd", []int{3}},
	} {
		if s, n := utf.Repair(c.s); s != c.whole || n != len(c.bads) {
			t.Errorf("Repair(%x): %x, %d; want %x, %d", c.s, s, n, c.whole, len(c.bads))
		}
		if l := utf.Bads(c.s); !slices.Equal(l, c.bads) {
			t.Errorf("Bads(%x): %v; want %v", c.s, l, c.bads)
		}
	}
}

// TestRunesAndRepairAny: P103, P104 and P109, of many texts.
func TestRunesAndRepairAny(t *testing.T) {
	for s := range manyTexts() {
		want := signsOf(s)
		var bads []int
		for _, g := range want {
			if g.Bad {
				bads = append(bads, g.At)
			}
		}
		runes := utf.Runes(s)
		whole, n := utf.Repair(s)
		if !slices.Equal(runes, runeSigns(want)) || !slices.Equal(utf.Bads(s), bads) || n != len(bads) {
			t.Fatalf("%x: runes %x, bads %v, %d repaired; want %v", s, runes, utf.Bads(s), n, want)
		}
		if utf.Text(runes) != whole || !slices.Equal(utf.Runes(whole), runes) {
			t.Fatalf("%x: Text of Runes %x, Repair %x", s, utf.Text(runes), whole)
		}
		again, n := utf.Repair(whole)
		if again != whole || n != 0 || len(utf.Bads(whole)) != 0 || utf.Count(whole) != len(want) {
			t.Fatalf("%x: %x, repaired again %x, %d", s, whole, again, n)
		}
	}
}

// TestMelts: P104 and W2, and the example 3.
func TestMelts(t *testing.T) {
	for _, c := range []struct {
		a, b string
		want bool
	}{
		{"", "", false},
		{"", "\xa9", false},
		{"", "a", false},
		{"", "\xf0\x9f\x98\x80", false},
		{"a", "b", false},
		{"a", "\xf0\x9f\x98\x80", false},
		{"\xc3", "\xa9", true},
		{"a", "\xa9", false},
		{"\xe2\x82", "\xac", true},
		{"\xe2", "\x82\xac", true},
		{"\xc3", "a", false},
		{"\xf0\x9f", "", false},
		{"\xe2", "\x82", false},
		{"\xf0\x9f\x98", "\x80\x80", true},
		{"\xf0", "\x9f\x98\x80 and more", true},
		{"\xe2\x82\xac", "\xac", false},
		{"\xe0", "\x80\x80", false},
		{"\xed", "\xa0\x80", false},
		{"\xed", "\x9f\xbf", true},
	} {
		if is := utf.Melts(c.a, c.b); is != c.want {
			t.Errorf("Melts(%x, %x): %v; want %v", c.a, c.b, is, c.want)
		}
	}
}

// melt tells by W2's own words whether two texts melt.
func melt(a, b string) bool {
	both := signsOf(a)
	for _, g := range signsOf(b) {
		g.At += len(a)
		both = append(both, g)
	}
	return !slices.Equal(signsOf(a+b), both)
}

// TestMeltsAny: P104 and W2, at each seam of many texts.
func TestMeltsAny(t *testing.T) {
	check := func(s string) {
		for at := 0; at <= len(s); at++ {
			if is := utf.Melts(s[:at], s[at:]); is != melt(s[:at], s[at:]) {
				t.Fatalf("Melts(%x, %x): %v", s[:at], s[at:], is)
			}
		}
	}
	for s := range manyTexts() {
		check(s)
		check(s + "\xa0\x80")
	}
}
