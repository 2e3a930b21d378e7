package utf_test

import (
	"slices"
	"testing"

	"surtitle/api"
	"surtitle/utf"
)

// TestPieces: P106, and the example 5; "END" stands for a call of End.
func TestPieces(t *testing.T) {
	p := utf.NewPieces()
	if p.Held() != 0 || p.End() != "" || p.Held() != 0 {
		t.Error("a new one holds something")
	}
	for i, c := range []struct {
		in, out string
		held    int
	}{
		{"", "", 0},
		{"\xe2", "", 1},
		{"\x82a", "\xe2\x82a", 0},
		{"\xc3\xf0\x9f", "\xc3", 2},
		{"", "", 2},
		{"\x98\x80", "\xf0\x9f\x98\x80", 0},
		{"\xc3", "", 1},
		{"END", "\xc3", 0},
		{"END", "", 0},
		{"\xa9", "\xa9", 0},
		{"\xf0", "", 1},
		{"\x9f", "", 2},
		{"\x98", "", 3},
		{"\xf0\x9f\x98", "\xf0\x9f\x98", 3},
		{"\x80\xe2\x82", "\xf0\x9f\x98\x80", 2},
		{"END", "\xe2\x82", 0},
		{"\xac", "\xac", 0},
		{"\xe0\x80", "\xe0\x80", 0},
		{"\xe0\xa0", "", 2},
		{"\xc2", "\xe0\xa0", 1},
		{"\x80", "\xc2\x80", 0},
		{"\xed\xa0", "\xed\xa0", 0},
		{"\xf4\x90", "\xf4\x90", 0},
		{"\xf0\x8f", "\xf0\x8f", 0},
		{"\xc0\xc1\xf5\xff", "\xc0\xc1\xf5\xff", 0},
		{"\xf4\x8f\xbf", "", 3},
		{"\xbf", "\xf4\x8f\xbf\xbf", 0},
	} {
		var out string
		if c.in == "END" {
			out = p.End()
		} else {
			out = p.Feed([]byte(c.in))
		}
		if out != c.out || p.Held() != c.held {
			t.Errorf("call %d, %x: %x, %d held; want %x, %d", i, c.in, out, p.Held(), c.out, c.held)
		}
	}
}

// fronts are all fronts, and not the whole, of valid encodings.
func fronts() map[string]bool {
	all := map[string]bool{}
	for r := rune(0x80); r <= 0x10ffff; r++ {
		if r >= 0xd800 && r <= 0xdfff {
			continue
		}
		s := string(r)
		for n := 1; n < len(s); n++ {
			all[s[:n]] = true
		}
	}
	return all
}

// TestHeldAny: P106: what is held of a text is the longest end that is such a front.
func TestHeldAny(t *testing.T) {
	all := fronts()
	for s := range manyTexts() {
		want := 0
		for n := 1; n <= min(3, len(s)); n++ {
			if all[s[len(s)-n:]] {
				want = n
			}
		}
		p := utf.NewPieces()
		out := p.Feed([]byte(s))
		if p.Held() != want || out != s[:len(s)-want] || p.End() != s[len(s)-want:] {
			t.Fatalf("Feed(%x): %x; want %d held", s, out, want)
		}
	}
}

// feedAll feeds pieces, and tells all that is told, End's too.
func feedAll(t *testing.T, p *utf.Pieces, pieces ...string) []string {
	var told []string
	for _, s := range pieces {
		told = append(told, p.Feed([]byte(s)))
		if p.Held() < 0 || p.Held() > 3 {
			t.Fatalf("%x: %d held", pieces, p.Held())
		}
	}
	told = append(told, p.End())
	if p.Held() != 0 {
		t.Fatalf("%x: %d held behind End", pieces, p.Held())
	}
	return told
}

// checkTold holds what was told against the whole: its bytes, its signs.
func checkTold(t *testing.T, s string, told []string) {
	var bytes string
	var signs []api.Sign
	for _, part := range told {
		for _, g := range signsOf(part) {
			g.At += len(bytes)
			signs = append(signs, g)
		}
		bytes += part
	}
	if bytes != s || !slices.Equal(signs, signsOf(s)) {
		t.Fatalf("%x: told %x, its signs %v", s, told, signs)
	}
}

// TestCutAnywhere: P110, of many texts cut at any two places, and byte by byte.
func TestCutAnywhere(t *testing.T) {
	p := utf.NewPieces() // the same one all along: behind End it goes on as a new one
	for s := range manyTexts() {
		for i := 0; i <= len(s); i++ {
			for j := i; j <= len(s); j++ {
				checkTold(t, s, feedAll(t, p, s[:i], s[i:j], s[j:]))
			}
		}
		var single []string
		for i := range len(s) {
			single = append(single, s[i:i+1])
		}
		checkTold(t, s, feedAll(t, p, single...))
	}
}

// TestWholeHoldsNothing: P110: of a text without bad signs that was fed whole nothing is held.
func TestWholeHoldsNothing(t *testing.T) {
	for s := range manyTexts() {
		whole, _ := utf.Repair(s)
		p := utf.NewPieces()
		if out := p.Feed([]byte(whole)); out != whole || p.Held() != 0 {
			t.Fatalf("Feed(%x): %x, %d held", whole, out, p.Held())
		}
	}
}
