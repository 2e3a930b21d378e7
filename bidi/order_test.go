package bidi_test

import (
	"iter"
	"math"
	"slices"
	"strings"
	"testing"

	"surtitle/api"
	"surtitle/bidi"
	"surtitle/cell"
	"surtitle/utf"
)

// orderOf tells what Order is to tell, by P405's own words.
func orderOf(levels []int) []int {
	var order []int
	for i := range levels {
		order = append(order, i)
	}
	for level := 255; level >= 1; level-- {
		var next []int
		for i := 0; i < len(order); {
			k := i
			for k < len(order) && levels[order[k]] >= level {
				k++
			}
			if k == i {
				next = append(next, order[i])
				i++
				continue
			}
			for back := k - 1; back >= i; back-- {
				next = append(next, order[back])
			}
			i = k
		}
		order = next
	}
	return order
}

// TestOrder: P405, and the examples 1 and 2.
func TestOrder(t *testing.T) {
	for _, c := range []struct{ levels, want []int }{
		{nil, nil},
		{[]int{}, nil},
		{[]int{0}, []int{0}},
		{[]int{255}, []int{0}},
		{[]int{0, 0, 1, 1, 0}, []int{0, 1, 3, 2, 4}},
		{[]int{1, 2, 2, 1}, []int{3, 1, 2, 0}},
		{[]int{2, 2, 2}, []int{0, 1, 2}},
		{[]int{254, 254}, []int{0, 1}},
		{[]int{255, 255}, []int{1, 0}},
		{[]int{0, 255, 255, 0}, []int{0, 2, 1, 3}},
		{[]int{255, 254, 254}, []int{0, 1, 2}},
		{[]int{1, 254, 254, 255}, []int{1, 2, 3, 0}},
		{[]int{0, 1, 2, 3, 2, 1}, []int{0, 5, 2, 3, 4, 1}},
		{[]int{3, 3, 0, 2, 2, 1}, []int{1, 0, 2, 5, 3, 4}},
	} {
		if l := bidi.Order(c.levels); !slices.Equal(l, c.want) {
			t.Errorf("Order(%v): %v; want %v", c.levels, l, c.want)
		}
	}
}

// allLevels goes over all lists of at most that many of these levels.
func allLevels(of []int, most int) iter.Seq[[]int] {
	return func(yield func([]int) bool) {
		var grow func(front []int) bool
		grow = func(front []int) bool {
			if !yield(front) {
				return false
			}
			if len(front) == most {
				return true
			}
			for _, level := range of {
				if !grow(append(slices.Clone(front), level)) {
					return false
				}
			}
			return true
		}
		grow(nil)
	}
}

// TestOrderAny: P405 and P407, of all short lists.
func TestOrderAny(t *testing.T) {
	for _, c := range []struct {
		of   []int
		most int
	}{{[]int{0, 1, 2, 3}, 6}, {[]int{0, 1, 122, 123, 254, 255}, 4}} {
		for levels := range allLevels(c.of, c.most) {
			l := bidi.Order(levels)
			if !slices.Equal(l, orderOf(levels)) {
				t.Fatalf("Order(%v): %v; want %v", levels, l, orderOf(levels))
			}
			slices.Sort(l)
			for i, place := range l {
				if i != place {
					t.Fatalf("Order(%v), sorted: %v", levels, l)
				}
			}
		}
	}
}

// TestOrderOfWrong: P9, and P1, P2: levels that may not be are neither changed nor the cause of a panic, and it ends.
func TestOrderOfWrong(t *testing.T) {
	for levels := range allLevels([]int{0, 1, -1, 256, math.MinInt, math.MaxInt}, 4) {
		was := slices.Clone(levels)
		bidi.Order(levels)
		if !slices.Equal(levels, was) {
			t.Fatalf("Order(%v) made it %v", was, levels)
		}
	}
}

// TestVisual: P406, and the examples 3 and 5.
func TestVisual(t *testing.T) {
	for _, c := range []struct {
		s    string
		base int
		want string
		e    api.Errno
	}{
		{"", 0, "", api.OK},
		{"", 1, "", api.OK},
		{"abc", 0, "abc", api.OK},
		{"abc", 1, "abc", api.OK},
		{"(" + r1 + ")", 1, "(" + r1 + ")", api.OK},
		{"(" + r1, 1, r1 + ")", api.OK},
		{"(a)", 1, "(a)", api.OK},
		{"(a)", 0, "(a)", api.OK},
		{"(" + r1 + ")", 0, "(" + r1 + ")", api.OK},
		{r1 + "(" + r2, 0, r2 + ")" + r1, api.OK},
		{r1 + "<\u0301" + r2, 0, r2 + ">\u0301" + r1, api.OK},
		{r1 + nm + r2, 1, r2 + r1 + nm, api.OK},
		{"\xc3" + r1 + "\xa9", 1, "\ufffd" + r1 + "\ufffd", api.OK},
		{"a\xff\u0301" + r1 + "\xe2\x82", 0, "a\ufffd\u0301" + r1 + "\ufffd\ufffd", api.OK},
		{"\xff", 1, "\ufffd", api.OK},
		{"a" + r1 + "12" + r2 + "b", 0, "a" + r2 + "12" + r1 + "b", api.OK},
		{"a\r\t" + r1, 0, "a\r\t" + r1, api.OK},
		{"a\n", 0, "", api.ErrText},
		{"\n", 1, "", api.ErrText},
		{r1 + "\nb", 1, "", api.ErrText},
		{"a", -1, "", api.ErrArg},
		{"a", 2, "", api.ErrArg},
		{"a\n", 2, "", api.ErrArg},
		{"", math.MinInt, "", api.ErrArg},
		{"", math.MaxInt, "", api.ErrArg},
	} {
		if v, e := bidi.Visual(c.s, c.base); v != c.want || e != c.e {
			t.Errorf("Visual(%+q, %d): %+q, %v; want %+q, %v", c.s, c.base, v, e, c.want, c.e)
		}
	}
}

// clustersOf tells the runes of each of a text's clusters.
func clustersOf(s string) [][]rune {
	var l [][]rune
	for c := range cell.Clusters(s) {
		l = append(l, utf.Runes(s[c.At:c.At+c.Len]))
	}
	return l
}

// visualOf tells what Visual is to tell of a text without line ends, by P406's own words.
func visualOf(s string, base int) string {
	levels, clusters := levelsOf(s, base), clustersOf(s)
	out := ""
	for _, i := range orderOf(levels) {
		if levels[i]%2 == 1 {
			clusters[i][0] = mirrorOf(clusters[i][0])
		}
		out += utf.Text(clusters[i])
	}
	return out
}

// sorted tells a text's runes in an order that hangs on them alone, mirrored ones as one of their pair.
func sorted(s string) []rune {
	l := utf.Runes(s)
	for i, r := range l {
		l[i] = min(r, mirrorOf(r))
	}
	slices.Sort(l)
	return l
}

// checkVisual holds what is seen of a text against the document's words, and against P407.
func checkVisual(t *testing.T, s string) {
	for base := range 2 {
		v, e := bidi.Visual(s, base)
		if strings.Contains(s, "\n") {
			if v != "" || e != api.ErrText {
				t.Fatalf("Visual(%+q, %d): %+q, %v; want text", s, base, v, e)
			}
			continue
		}
		if want := visualOf(s, base); v != want || e != api.OK {
			t.Fatalf("Visual(%+q, %d): %+q, %v; want %+q", s, base, v, e, want)
		}
		if utf.Count(v) != utf.Count(s) || len(utf.Bads(v)) != 0 || !slices.Equal(sorted(v), sorted(s)) {
			t.Fatalf("Visual(%+q, %d): %+q has other signs", s, base, v)
		}
	}
}

// TestVisualAny: P406 and P407, of many texts.
func TestVisualAny(t *testing.T) {
	for s := range allTexts([]string{"a", r1, "(", "\u300d", nm, "\xc3", "\xa9", "\n", ri, pi, "1"}, 4) {
		checkVisual(t, s)
	}
	for s := range longTexts(2000) {
		checkVisual(t, strings.ReplaceAll(s, "\n", "\u2029"))
		checkVisual(t, s)
	}
}

// TestVisualOfLeft: P407: a text of class L alone is seen as it is, repaired.
func TestVisualOfLeft(t *testing.T) {
	for s := range allTexts([]string{"a", "e\u0301", "\u4e2d", "\U0001f469\u200d\U0001f4bb", "b\u0301\u0302", "\u200e"}, 4) {
		if v, e := bidi.Visual(s, 0); v != s || e != api.OK {
			t.Fatalf("Visual(%+q, 0): %+q, %v", s, v, e)
		}
	}
}
