package bidi_test

import (
	"iter"
	"math"
	"math/rand"
	"slices"
	"strings"
	"testing"

	"surtitle/api"
	"surtitle/bidi"
	"surtitle/cell"
)

const (
	li = "\u2066"
	ri = "\u2067"
	fi = "\u2068"
	pi = "\u2069"
	r1 = "\u05d0"
	r2 = "\u05d1"
	a1 = "\u0628"
	an = "\u0661"
	nm = "\u0591"
)

// parts are one of each class: letters that marks do not join, so that each class can stand ahead of a mark.
var parts = []string{"\n", "\t", " ", "1", an, "+", "$", ",", li, ri, fi, pi, nm, "\u061c", "\u200f", "!", "\u200e"}

// numberParts are those that the rules of numbers tell apart, isolateParts those of isolates.
var (
	numberParts  = []string{"a", r1, a1, "1", an, "+", "$", ","}
	isolateParts = []string{li, ri, fi, pi, "a", a1, " ", "\t"}
)

// allTexts goes over all texts of at most that many parts.
func allTexts(parts []string, most int) iter.Seq[string] {
	return func(yield func(string) bool) {
		var grow func(front string, left int) bool
		grow = func(front string, left int) bool {
			if !yield(front) {
				return false
			}
			if left == 0 {
				return true
			}
			for _, p := range parts {
				if !grow(front+p, left-1) {
					return false
				}
			}
			return true
		}
		grow("", most)
	}
}

// longTexts goes over long ones of all parts, letters with marks and brackets, and bad bytes; always the same ones.
func longTexts(count int) iter.Seq[string] {
	return func(yield func(string) bool) {
		random := rand.New(rand.NewSource(4))
		all := slices.Concat(parts[1:], numberParts, isolateParts, []string{"(", ")", "\xff", "\xc3", "\xa9", r2 + nm, "\u4e2d", "\n"})
		for range count {
			var s strings.Builder
			for range random.Intn(60) {
				s.WriteString(all[random.Intn(len(all))])
			}
			if !yield(s.String()) {
				return
			}
		}
	}
}

// deepTexts goes over texts of isolates about as deep as they can be.
func deepTexts() iter.Seq[string] {
	return func(yield func(string) bool) {
		for depth := 58; depth <= 63; depth++ {
			for _, opener := range []string{li, ri, fi, ri + li, r1 + fi, "a" + ri, "1 " + fi} {
				open := strings.Repeat(opener, depth)
				closed := strings.Repeat(pi+"a1"+r1+"!", depth+1)
				for _, mid := range []string{"", "a", r1 + "1", li + pi, ri + "a" + fi + r1 + pi, " \t"} {
					if !yield(open+mid) || !yield(open+mid+closed) || !yield(open+mid+"\n"+mid+closed) {
						return
					}
				}
			}
		}
	}
}

type levelCase struct {
	s    string
	base int
	want []int
}

func checkLevelCases(t *testing.T, cases []levelCase) {
	for _, c := range cases {
		if l, e := bidi.Levels(c.s, c.base); !slices.Equal(l, c.want) || e != api.OK {
			t.Errorf("Levels(%+q, %d): %v, %v; want %v", c.s, c.base, l, e, c.want)
		}
	}
}

// TestLevelsExamples: P404, the document's examples.
func TestLevelsExamples(t *testing.T) {
	checkLevelCases(t, []levelCase{
		{"", 0, nil},
		{"", 1, nil},
		{"ab" + r1 + r2 + "c", 0, []int{0, 0, 1, 1, 0}},
		{r1 + "12" + r2, 1, []int{1, 2, 2, 1}},
		{a1 + "1", 0, []int{1, 2}},
		{"a1", 1, []int{2, 2}},
		{"1", 1, []int{2}},
		{"(" + r1 + ")", 1, []int{1, 1, 1}},
		{"1+2", 1, []int{2, 2, 2}},
		{"1+ 2", 1, []int{2, 1, 1, 2}},
		{"a " + ri + r1 + "b" + pi + " c", 0, []int{0, 0, 0, 1, 2, 0, 0, 0}},
		{"a " + ri + r1 + "b c", 0, []int{0, 0, 0, 1, 2, 2, 2}},
		{r1 + nm + r2, 1, []int{1, 1}},
		{"a \n" + r1, 1, []int{2, 1, 1, 1}},
	})
}

// TestLevelsOfNumbers: P404's rules 1 to 8, one by one.
func TestLevelsOfNumbers(t *testing.T) {
	checkLevelCases(t, []levelCase{
		// 1
		{nm, 0, []int{0}},
		{nm, 1, []int{1}},
		{"\u200f" + nm + "a", 0, []int{1, 1, 0}},
		{r1 + "\t" + nm + r2, 0, []int{1, 0, 1, 1}},
		{r1 + ri + pi + nm, 0, []int{1, 0, 0, 0}},
		{"a" + ri + nm + pi + "b", 0, []int{0, 0, 1, 0, 0}},
		{"\u061c" + nm + "1", 0, []int{1, 1, 2}},
		// 2 and 3
		{a1 + "a1", 0, []int{1, 0, 0}},
		{a1 + r1 + "1+2", 0, []int{1, 1, 2, 2, 2}},
		{a1 + "1+2", 0, []int{1, 2, 1, 2}},
		{a1 + " !1,2", 0, []int{1, 1, 1, 2, 2, 2}},
		{a1 + ri + "1+2" + pi + "1+2", 0, []int{1, 1, 2, 2, 2, 1, 2, 1, 2}},
		// 4
		{r1 + "1,2,3", 0, []int{1, 2, 2, 2, 2, 2}},
		{r1 + "1,,2", 0, []int{1, 2, 1, 1, 2}},
		{r1 + "1," + an, 0, []int{1, 2, 1, 2}},
		{an + "," + an, 0, []int{2, 2, 2}},
		{an + "+" + an, 0, []int{2, 1, 2}},
		{"1,", 1, []int{2, 1}},
		{",1", 1, []int{1, 2}},
		// 5 and 6
		{r1 + "$$1%%", 0, []int{1, 2, 2, 2, 2, 2}},
		{r1 + "$,1", 0, []int{1, 1, 1, 2}},
		{r1 + "$", 0, []int{1, 0}},
		{a1 + "$1", 0, []int{1, 1, 2}},
		{an + "$", 0, []int{2, 0}},
		// 7
		{"a$1", 1, []int{2, 2, 2}},
		{"a !1", 1, []int{2, 2, 2, 2}},
		{r1 + "1a2", 0, []int{1, 2, 0, 0}},
		{"1", 0, []int{0}},
		{an, 0, []int{2}},
		// 8
		{"a " + r1, 0, []int{0, 0, 1}},
		{"a " + r1, 1, []int{2, 1, 1}},
		{r1 + " 1", 0, []int{1, 1, 2}},
		{an + " " + r1, 0, []int{2, 1, 1}},
		{"a!b", 1, []int{2, 2, 2}},
		{"!a", 1, []int{1, 2}},
		{"!" + r1, 0, []int{0, 1}},
		{"\xff" + r1, 0, []int{0, 1}},
	})
}

// TestLevelsOfIsolates: P404's isolates, and its rule 9.
func TestLevelsOfIsolates(t *testing.T) {
	checkLevelCases(t, []levelCase{
		{li + "a" + pi + "b", 0, []int{0, 2, 0, 0}},
		{li + "a" + pi + "b", 1, []int{1, 2, 1, 2}},
		{ri + r1 + pi + r1, 1, []int{1, 3, 1, 1}},
		{fi + r1 + pi + "b", 0, []int{0, 1, 0, 0}},
		{fi + "1" + a1 + pi + "b", 0, []int{0, 2, 1, 0, 0}},
		{fi + "a" + pi + "b", 0, []int{0, 2, 0, 0}},
		{fi + "!" + pi + "b", 0, []int{0, 2, 0, 0}},
		{fi + ri + r1 + pi + "a" + pi + "b", 0, []int{0, 2, 3, 2, 2, 0, 0}},
		{fi + r1 + ri + "a", 0, []int{0, 1, 1, 4}},
		{pi + r1 + pi + r2, 0, []int{0, 1, 1, 1}},
		{r1 + ri + "a" + pi + r2, 0, []int{1, 1, 2, 1, 1}},
		{ri + "a\n" + r1, 0, []int{0, 2, 0, 1}},
		{ri + "a\n" + pi + "b", 0, []int{0, 2, 0, 0, 0}},
		// 9
		{r1 + " \t" + r2, 0, []int{1, 0, 0, 1}},
		{r1 + "! \t" + r2, 0, []int{1, 1, 0, 0, 1}},
		{r1 + ri + " " + pi + " ", 0, []int{1, 0, 0, 0, 0}},
		{r1 + " !", 0, []int{1, 0, 0}},
		{"a !", 1, []int{2, 1, 1}},
		{"a  ", 1, []int{2, 1, 1}},
		{ri + "a \tb" + pi + "c", 0, []int{0, 2, 0, 0, 2, 0, 0}},
		{ri + "a \n", 0, []int{0, 2, 0, 0}},
		{ri + "a ", 0, []int{0, 2, 0}},
		{" " + r1, 0, []int{0, 1}},
		{ri + " " + nm, 0, []int{0, 0}},
		{ri + li + pi + nm, 0, []int{0, 1, 1, 1}},
	})
}

// TestDepth: P404 and P408: isolates beyond those that can be open are plain.
func TestDepth(t *testing.T) {
	for _, c := range []struct {
		s    string
		base int
		want []int // the levels of the last ones
	}{
		{strings.Repeat(ri, 60) + "a", 0, []int{117, 120}},
		{strings.Repeat(ri, 61) + "a", 0, []int{117, 119, 120}},
		{strings.Repeat(li, 61) + "a", 0, []int{118, 120, 120}},
		{strings.Repeat(ri, 60) + "a", 1, []int{119, 122}},
		{strings.Repeat(li, 60) + an, 0, []int{118, 122}},
		{strings.Repeat(ri, 61) + "a" + pi + "b" + pi + "c", 0, []int{120, 120, 120, 117, 118}},
		{strings.Repeat(ri, 62) + pi + pi + pi + "c", 0, []int{119, 119, 117, 118}},
		{strings.Repeat(ri, 60) + pi + pi + ri + "c", 0, []int{115, 115, 118}},
		{strings.Repeat(ri, 61) + "\n" + ri + "c" + pi, 0, []int{0, 0, 2, 0}},
	} {
		l, e := bidi.Levels(c.s, c.base)
		if e != api.OK || len(l) < len(c.want) || !slices.Equal(l[len(l)-len(c.want):], c.want) {
			t.Errorf("Levels(%+q, %d): %v, %v; want %v at its end", c.s, c.base, l, e, c.want)
		}
	}
}

// TestLevelsRefused: P404 and P4.
func TestLevelsRefused(t *testing.T) {
	for _, base := range []int{-1, 2, 3, math.MinInt, math.MaxInt} {
		for _, s := range []string{"", "a", r1 + "\n", "\xff"} {
			if l, e := bidi.Levels(s, base); len(l) != 0 || e != api.ErrArg {
				t.Errorf("Levels(%+q, %d): %v, %v; want arg", s, base, l, e)
			}
		}
	}
}

// TestBase: P403, and the example 1.
func TestBase(t *testing.T) {
	for _, c := range []struct {
		s               string
		otherwise, want int
	}{
		{r1 + "a", 0, 1},
		{a1 + "a", 0, 1},
		{"a" + r1, 1, 0},
		{"12", 1, 1},
		{"12", 0, 0},
		{"", 1, 1},
		{"", -7, -7},
		{"!", math.MaxInt, math.MaxInt},
		{"1! " + nm + r1, 0, 1},
		{ri + r1 + pi + "a", 1, 0},
		{li + "a" + pi + r1, 0, 1},
		{fi + "a" + ri + r1 + pi + "b", 5, 5},
		{pi + ri + pi + r1, 0, 1},
		{"1\na", 7, 7},
		{"\na", 1, 1},
		{ri + "\na", 1, 1},
		{r1 + "\na", 0, 1},
		{"\xff" + r1, 0, 1},
		{an + "a", 1, 0},
		{strings.Repeat(ri, 61) + strings.Repeat(pi, 60) + "a" + pi + r1, 0, 1},
	} {
		if n := bidi.Base(c.s, c.otherwise); n != c.want {
			t.Errorf("Base(%+q, %d): %d; want %d", c.s, c.otherwise, n, c.want)
		}
	}
}

// checkLevels holds a text's levels and base against the document's words, and against P408's bounds.
func checkLevels(t *testing.T, s string) {
	if n, want := bidi.Base(s, 7), baseOf(s, 7); n != want {
		t.Fatalf("Base(%+q, 7): %d; want %d", s, n, want)
	}
	for base := range 2 {
		want := levelsOf(s, base)
		l, e := bidi.Levels(s, base)
		if e != api.OK || !slices.Equal(l, want) {
			t.Fatalf("Levels(%+q, %d): %v, %v; want %v", s, base, l, e, want)
		}
		for _, level := range l {
			if level < base || level > base+2*60+3 {
				t.Fatalf("Levels(%+q, %d): %v", s, base, l)
			}
		}
	}
}

// TestLevelsAny: P403, P404 and P408, of many texts.
func TestLevelsAny(t *testing.T) {
	for s := range allTexts(parts, 4) {
		checkLevels(t, s)
	}
	for s := range allTexts(numberParts, 5) {
		checkLevels(t, s)
	}
	for s := range allTexts(isolateParts, 5) {
		checkLevels(t, s)
	}
	for s := range longTexts(20000) {
		checkLevels(t, s)
	}
	for s := range deepTexts() {
		checkLevels(t, s)
	}
}

// TestEachParagraph: P408: a paragraph's levels hang on it alone.
func TestEachParagraph(t *testing.T) {
	var fronts []string
	for s := range longTexts(200) {
		fronts = append(fronts, s+"\n")
	}
	i := 0
	for s := range longTexts(5000) {
		front := fronts[i%len(fronts)]
		i++
		for base := range 2 {
			a, _ := bidi.Levels(front, base)
			b, _ := bidi.Levels(s, base)
			both, _ := bidi.Levels(front+s, base)
			if !slices.Equal(both, slices.Concat(a, b)) {
				t.Fatalf("Levels(%+q, %d): %v; of its parts %v, %v", front+s, base, both, a, b)
			}
		}
		if bidi.Base(front+s, 7) != bidi.Base(front, 7) {
			t.Fatalf("Base(%+q): %d; of its front %d", front+s, bidi.Base(front+s, 7), bidi.Base(front, 7))
		}
	}
}

// TestInsideIsolates: P408: what stands inside of an isolate changes no level outside of it.
func TestInsideIsolates(t *testing.T) {
	inner := []string{"a", r1, a1, "1", an, "!", "a1" + r1, r1 + " ! " + a1 + "1", fi + r1 + pi, "a" + li + a1, "$" + ri + "1" + pi + "%"}
	for _, opener := range []string{li, ri, fi} {
		for front := range allTexts(numberParts, 2) {
			for rest := range allTexts(numberParts, 2) {
				for base := range 2 {
					checkOutside(t, front+opener, inner, rest+"!", base)
				}
			}
		}
	}
}

// checkOutside holds the levels in front of and behind each of these against those of the first of them.
func checkOutside(t *testing.T, front string, inner []string, rest string, base int) {
	n := len(slices.Collect(cell.Clusters(front)))
	var want []int
	for _, s := range inner {
		// What the inner text leaves open is closed ahead of the isolate.
		for range strings.Count(s, li) + strings.Count(s, ri) + strings.Count(s, fi) - strings.Count(s, pi) {
			s += pi
		}
		k := len(slices.Collect(cell.Clusters(s)))
		l, _ := bidi.Levels(front+s+pi+rest, base)
		outer := slices.Concat(l[:n], l[n+k:])
		if want == nil {
			want = outer
		}
		if !slices.Equal(outer, want) {
			t.Fatalf("Levels(%+q, %d): %v outside; with %+q inside: %v", front+s+pi+rest, base, outer, inner[0], want)
		}
	}
}
