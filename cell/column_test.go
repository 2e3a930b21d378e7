package cell_test

import (
	"math"
	"strings"
	"testing"

	"surtitle/api"
	"surtitle/cell"
	"surtitle/utf"
)

// TestCut: P204, and the example 5.
func TestCut(t *testing.T) {
	for _, c := range []struct {
		s           string
		cells       int
		front, rest string
		e           api.Errno
	}{
		{"", 0, "", "", api.OK},
		{"", -1, "", "", api.ErrArg},
		{"a", -1, "", "", api.ErrArg},
		{"a", math.MinInt, "", "", api.ErrArg},
		{"\u4e2da", 0, "", "\u4e2da", api.OK},
		{"\u4e2da", 1, "", "\u4e2da", api.OK},
		{"\u4e2da", 2, "\u4e2d", "a", api.OK},
		{"\u4e2da", 3, "\u4e2da", "", api.OK},
		{"\u4e2da", math.MaxInt, "\u4e2da", "", api.OK},
		{"a\u4e2da", 2, "a", "\u4e2da", api.OK},
		{"a\nb", 1, "a\n", "b", api.OK},
		{"\n\nb", 0, "\n\n", "b", api.OK},
		{"e\u0301x", 1, "e\u0301", "x", api.OK},
		{"\U0001f1e9\U0001f1ea\U0001f1e9", 1, "", "\U0001f1e9\U0001f1ea\U0001f1e9", api.OK},
		{"\xe4\xb8a", 2, "\xe4\xb8", "a", api.OK},
	} {
		if front, rest, e := cell.Cut(c.s, c.cells); front != c.front || rest != c.rest || e != c.e {
			t.Errorf("Cut(%+q, %d): %+q, %+q, %v; want %+q, %+q, %v", c.s, c.cells, front, rest, e, c.front, c.rest, c.e)
		}
	}
}

// TestCutAny: P204 and P208, of many texts at all widths.
func TestCutAny(t *testing.T) {
	for s := range manyTexts(3) {
		all := clustersOf(s)
		for cells := 0; cells <= sum(all)+2; cells++ {
			n := 0
			for n < len(all) && sum(all[:n+1]) <= cells {
				n++
			}
			end := len(s)
			if n < len(all) {
				end = all[n].At
			}
			front, rest, e := cell.Cut(s, cells)
			if front != s[:end] || rest != s[end:] || e != api.OK {
				t.Fatalf("Cut(%+q, %d): %+q, %+q, %v; want %d bytes", s, cells, front, rest, e, end)
			}
			if cell.Of(front) > cells || cell.Of(front)+cell.Of(rest) != cell.Of(s) {
				t.Fatalf("Cut(%+q, %d): of %d and %d cells", s, cells, cell.Of(front), cell.Of(rest))
			}
			if n < len(all) && cell.Of(front)+all[n].Cells <= cells {
				t.Fatalf("Cut(%+q, %d): %+q could have a cluster more", s, cells, front)
			}
		}
	}
}

type numberCase struct {
	s        string
	at, want int
	e        api.Errno
}

func checkNumbers(t *testing.T, name string, f func(string, int) (int, api.Errno), cases []numberCase) {
	for _, c := range cases {
		if n, e := f(c.s, c.at); n != c.want || e != c.e {
			t.Errorf("%s(%+q, %d): %d, %v; want %d, %v", name, c.s, c.at, n, e, c.want, c.e)
		}
	}
}

// TestColumn: P205, and the example 5.
func TestColumn(t *testing.T) {
	checkNumbers(t, "Column", cell.Column, []numberCase{
		{"", 0, 0, api.OK},
		{"", 1, 0, api.ErrArg},
		{"", -1, 0, api.ErrArg},
		{"\u4e2da", 0, 0, api.OK},
		{"\u4e2da", 1, 2, api.OK},
		{"\u4e2da", 2, 3, api.OK},
		{"\u4e2da", 3, 0, api.ErrArg},
		{"\u4e2da", -1, 0, api.ErrArg},
		{"\u4e2da", math.MaxInt, 0, api.ErrArg},
		{"\u4e2da", math.MinInt, 0, api.ErrArg},
		{"ae\u0301x", 1, 1, api.OK},
		{"ae\u0301x", 2, 1, api.OK},
		{"ae\u0301x", 3, 2, api.OK},
		{"ae\u0301", 3, 2, api.OK},
		{"a\u0301", 1, 0, api.OK},
		{"a\nb", 2, 1, api.OK},
	})
}

// TestSign: P206, and the example 5.
func TestSign(t *testing.T) {
	checkNumbers(t, "Sign", cell.Sign, []numberCase{
		{"", 0, 0, api.OK},
		{"", 1, 0, api.ErrArg},
		{"", -1, 0, api.ErrArg},
		{"\u4e2da", 0, 0, api.OK},
		{"\u4e2da", 1, 0, api.OK},
		{"\u4e2da", 2, 1, api.OK},
		{"\u4e2da", 3, 2, api.OK},
		{"\u4e2da", 4, 0, api.ErrArg},
		{"\u4e2da", -1, 0, api.ErrArg},
		{"\u4e2da", math.MaxInt, 0, api.ErrArg},
		{"\u4e2da", math.MinInt, 0, api.ErrArg},
		{"\u0301", 0, 1, api.OK},
		{"\u0301", 1, 0, api.ErrArg},
		{"\n\na", 0, 2, api.OK},
		{"a\n\u0301", 1, 3, api.OK},
		{"ae\u0301x", 2, 3, api.OK},
	})
}

// TestColumnAny: P205 and P209, of many texts at all places.
func TestColumnAny(t *testing.T) {
	for s := range manyTexts(3) {
		all, signs, before := clustersOf(s), utf.Count(s), 0
		for sign := -2; sign <= signs+2; sign++ {
			want, wrong := 0, api.OK
			for _, c := range all {
				if c.To <= sign {
					want += c.Cells
				}
			}
			if sign < 0 || sign > signs {
				want, wrong = 0, api.ErrArg
			}
			n, e := cell.Column(s, sign)
			if n != want || e != wrong {
				t.Fatalf("Column(%+q, %d): %d, %v; want %d, %v", s, sign, n, e, want, wrong)
			}
			if e == api.OK && n < before {
				t.Fatalf("Column(%+q, %d): %d behind %d", s, sign, n, before)
			}
			before = n
		}
	}
}

// TestSignAny: P206 and P209, of many texts at all columns.
func TestSignAny(t *testing.T) {
	for s := range manyTexts(3) {
		all := clustersOf(s)
		for column := -2; column <= sum(all)+2; column++ {
			n, e := cell.Sign(s, column)
			if column < 0 || column > sum(all) {
				if n != 0 || e != api.ErrArg {
					t.Fatalf("Sign(%+q, %d): %d, %v; want ErrArg", s, column, n, e)
				}
				continue
			}
			want := utf.Count(s)
			for i := len(all) - 1; i >= 0; i-- {
				if sum(all[:i+1]) > column {
					want = all[i].From
				}
			}
			if n != want || e != api.OK {
				t.Fatalf("Sign(%+q, %d): %d, %v; want %d", s, column, n, e, want)
			}
			if back, _ := cell.Column(s, n); back > column || back <= column-2 {
				t.Fatalf("Column(%+q, Sign(%d)): %d", s, column, back)
			}
		}
	}
}

// TestPad: P207, and the example 5.
func TestPad(t *testing.T) {
	for _, c := range []struct {
		s            string
		cells, ahead int
		want         string
		e            api.Errno
	}{
		{"ab", 5, 5, " ab  ", api.OK},
		{"ab", 5, 0, "ab   ", api.OK},
		{"ab", 5, 10, "   ab", api.OK},
		{"ab", 5, 9, "  ab ", api.OK},
		{"ab", 5, 3, "ab   ", api.OK},
		{"ab", 5, 4, " ab  ", api.OK},
		{"ab", 2, 5, "ab", api.OK},
		{"abc", 2, 5, "abc", api.OK},
		{"", 0, 0, "", api.OK},
		{"", 3, 5, "   ", api.OK},
		{"\u4e2d\xff", 5, 5, " \u4e2d\xff ", api.OK},
		{"\u0301", 1, 10, " \u0301", api.OK},
		{"a", 200, 0, "a" + strings.Repeat(" ", 199), api.OK},
		{"a", 200, 10, strings.Repeat(" ", 199) + "a", api.OK},
		{strings.Repeat("a", 300), 200, 5, strings.Repeat("a", 300), api.OK},
		{"a", 201, 0, "", api.ErrArg},
		{"a", -1, 0, "", api.ErrArg},
		{"a", 5, -1, "", api.ErrArg},
		{"a", 5, 11, "", api.ErrArg},
		{"a", math.MaxInt, 5, "", api.ErrArg},
		{"a", math.MinInt, 5, "", api.ErrArg},
		{"a", 5, math.MaxInt, "", api.ErrArg},
		{"a", 5, math.MinInt, "", api.ErrArg},
		{strings.Repeat("a", 300), 201, 5, "", api.ErrArg},
		{"abc", 2, 11, "", api.ErrArg},
	} {
		if s, e := cell.Pad(c.s, c.cells, c.ahead); s != c.want || e != c.e {
			t.Errorf("Pad(%+q, %d, %d): %q, %v; want %q, %v", c.s, c.cells, c.ahead, s, e, c.want, c.e)
		}
	}
}

// TestPadAny: P207 and P209, of many texts.
func TestPadAny(t *testing.T) {
	for s := range manyTexts(3) {
		own := cell.Of(s)
		for _, cells := range []int{0, own, own + 1, own + 7, 200} {
			for ahead := 0; ahead <= 10; ahead++ {
				lack := max(0, cells-own)
				front := lack * ahead / 10
				want := strings.Repeat(" ", front) + s + strings.Repeat(" ", lack-front)
				got, e := cell.Pad(s, cells, ahead)
				if got != want || e != api.OK {
					t.Fatalf("Pad(%+q, %d, %d): %+q, %v", s, cells, ahead, got, e)
				}
			}
			if s, _ := cell.Pad(s, cells, 5); cell.Of(s) != max(own, cells) {
				t.Fatalf("Of(Pad(%+q, %d)): %d", s, cells, cell.Of(s))
			}
		}
	}
}
