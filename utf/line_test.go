package utf_test

import (
	"slices"
	"strings"
	"testing"

	"surtitle/utf"
)

type line struct {
	at int
	s  string
}

func linesOf(s string) []line {
	var l []line
	for at, x := range utf.Lines(s) {
		l = append(l, line{at, x})
	}
	return l
}

// TestLines: P105, and the example 4.
func TestLines(t *testing.T) {
	for _, c := range []struct {
		s    string
		want []line
	}{
		{"", nil},
		{"a", []line{{0, "a"}}},
		{"a\r\nb\n\nc", []line{{0, "a"}, {3, "b"}, {5, ""}, {6, "c"}}},
		{"a\r\nb\n\nc\n", []line{{0, "a"}, {3, "b"}, {5, ""}, {6, "c"}}},
		{"\n", []line{{0, ""}}},
		{"\r", []line{{0, ""}}},
		{"\r\n", []line{{0, ""}}},
		{"\n\r", []line{{0, ""}, {1, ""}}},
		{"\r\r\n\n", []line{{0, ""}, {1, ""}, {3, ""}}},
		{"a\rb\r", []line{{0, "a"}, {2, "b"}}},
		{"a\n\rb", []line{{0, "a"}, {2, ""}, {3, "b"}}},
		{"\xef\xbb\xbfa\n\xc3\r\n\xa9", []line{{0, "\xef\xbb\xbfa"}, {5, "\xc3"}, {8, "\xa9"}}},
		{"a\x00\x0b\x0c\xc2\x85\xe2\x80\xa8b", []line{{0, "a\x00\x0b\x0c\xc2\x85\xe2\x80\xa8b"}}},
	} {
		if l := linesOf(c.s); !slices.Equal(l, c.want) {
			t.Errorf("Lines(%q): %v; want %v", c.s, l, c.want)
		}
	}
}

// TestLinesAny: P105, of all short texts of line ends and others: all ends made one, its lines are those of strings.Split.
func TestLinesAny(t *testing.T) {
	for s := range allTexts("a\n\r\xc3", 6) {
		one := strings.ReplaceAll(strings.ReplaceAll(s, "\r\n", "\n"), "\r", "\n")
		want := strings.Split(one, "\n")
		if want[len(want)-1] == "" {
			want = want[:len(want)-1]
		}
		end := 0
		var got []string
		for at, x := range utf.Lines(s) {
			between := s[end:at]
			if len(got) == 0 && at != 0 || len(got) > 0 && between != "\n" && between != "\r" && between != "\r\n" {
				t.Fatalf("Lines(%q): a line at %d behind one that ends at %d", s, at, end)
			}
			if !strings.HasPrefix(s[at:], x) {
				t.Fatalf("Lines(%q): %q is not at %d", s, x, at)
			}
			got = append(got, x)
			end = at + len(x)
		}
		if !slices.Equal(got, want) {
			t.Fatalf("Lines(%q): %q; want %q", s, got, want)
		}
	}
}
