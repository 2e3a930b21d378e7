package utf_test

import (
	"bytes"
	"slices"
	"testing"
	"unsafe"

	"surtitle/api"
	"surtitle/utf"
)

// TestSequences: P6: sequences may be left early, ranged over again, and within themselves.
func TestSequences(t *testing.T) {
	signs := utf.Signs("a\xc3b")
	lines := utf.Lines("a\r\n\nb")
	for range 2 {
		for range signs {
			break
		}
		for range lines {
			break
		}
	}
	n := 0
	for range signs {
		for g := range signs {
			n += g.At + 1
		}
	}
	if n != 3*(1+2+3) {
		t.Errorf("Signs within itself: %d", n)
	}
	n = 0
	for range lines {
		for at := range lines {
			n += at + 1
		}
	}
	if n != 3*(1+4+5) {
		t.Errorf("Lines within itself: %d", n)
	}
	if l := slices.Collect(signs); len(l) != 3 || l[2] != (api.Sign{At: 2, Len: 1, Rune: 'b'}) {
		t.Errorf("Signs again: %v", l)
	}
}

// TestHandedIn: P2: what is handed in is neither changed, its spare room too, nor kept.
func TestHandedIn(t *testing.T) {
	room := []byte("a\xf0\x9f\x98\x80\xc3zz")
	p := utf.NewPieces()
	first := p.Feed(room[:3])
	second := p.Feed(room[3:6])
	if !bytes.Equal(room, []byte("a\xf0\x9f\x98\x80\xc3zz")) {
		t.Errorf("the piece was changed: %x", room)
	}
	for i := range room {
		room[i] = 'x'
	}
	if first != "a" || second != "\xf0\x9f\x98\x80" || p.End() != "\xc3" {
		t.Errorf("the piece was kept: %x, %x", first, second)
	}
	l := []rune{-1, 0xd800, 'a', 'z'}
	s := utf.Text(l[:3])
	if !slices.Equal(l, []rune{-1, 0xd800, 'a', 'z'}) {
		t.Errorf("the runes were changed: %x", l)
	}
	l[2] = 'x'
	if s != "\ufffd\ufffda" {
		t.Errorf("the runes were kept: %x", s)
	}
}

// TestAnswers: P2: answers share no memory, nor spare room.
func TestAnswers(t *testing.T) {
	s := "a\xc3\xff"
	runes, others := utf.Runes(s), utf.Runes(s)
	clear(runes[:cap(runes)])
	if !slices.Equal(others, []rune{'a', 0xfffd, 0xfffd}) || !slices.Equal(utf.Runes(s), others) {
		t.Errorf("Runes share: %x", others)
	}
	bads, more := utf.Bads(s), utf.Bads(s)
	clear(bads[:cap(bads)])
	if !slices.Equal(more, []int{1, 2}) || !slices.Equal(utf.Bads(s), more) {
		t.Errorf("Bads share: %v", more)
	}
}

// within tells whether a text lies in the memory of another one.
func within(part, s string) bool {
	at, from := uintptr(unsafe.Pointer(unsafe.StringData(part))), uintptr(unsafe.Pointer(unsafe.StringData(s)))
	return part != "" && at >= from && at < from+uintptr(len(s))
}

// TestTextsAreNew: P2: texts that are answered are new memory too.
func TestTextsAreNew(t *testing.T) {
	s := string(bytes.Repeat([]byte("a line of text\n"), 10))
	cut, _ := utf.Cut(s, api.USigns, 0, len(s))
	whole, _ := utf.Repair(s)
	for _, x := range utf.Lines(s) {
		if within(x, s) {
			t.Fatal("a line shares the file's memory")
		}
	}
	if within(cut, s) || within(whole, s) {
		t.Errorf("shared: Cut %v, Repair %v", within(cut, s), within(whole, s))
	}
}

// TestApart: P8: of two Pieces none knows of the other.
func TestApart(t *testing.T) {
	one, two := utf.NewPieces(), utf.NewPieces()
	one.Feed([]byte("\xe2\x82"))
	if two.Held() != 0 || two.Feed([]byte("\xac")) != "\xac" || one.Held() != 2 {
		t.Errorf("%d, %d held", one.Held(), two.Held())
	}
	if out := one.Feed([]byte("\xac")); out != "\xe2\x82\xac" {
		t.Errorf("Feed: %x", out)
	}
}
