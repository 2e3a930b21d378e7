package utf_test

import (
	"math"
	"testing"

	"surtitle/api"
	"surtitle/utf"
)

var units = []int{api.UBytes, api.USigns, api.UPairs}

// placesOf tells the places of a text that lie within no sign, each by all three units.
func placesOf(s string) [][4]int {
	l := [][4]int{{}}
	for i, g := range signsOf(s) {
		p := l[i]
		p[api.UBytes] += g.Len
		p[api.USigns]++
		p[api.UPairs]++
		if g.Rune >= 0x10000 {
			p[api.UPairs]++
		}
		l = append(l, p)
	}
	return l
}

// wantPlace tells by P102's own words what Place answers, its units being units.
func wantPlace(s string, at, from, to int) (int, api.Errno) {
	l := placesOf(s)
	if at < 0 || at > l[len(l)-1][from] {
		return 0, api.ErrArg
	}
	for _, p := range l {
		if p[from] == at {
			return p[to], api.OK
		}
	}
	return 0, api.ErrWithin
}

// TestPlaceExamples: P102, and the example 1.
func TestPlaceExamples(t *testing.T) {
	s := "a\xc3\xa9\xc3\xf0\x9f\x98\x80"
	for _, c := range []struct {
		s               string
		at, from, to, n int
		e               api.Errno
	}{
		{s, 1, api.USigns, api.UBytes, 1, api.OK},
		{s, 3, api.UBytes, api.UPairs, 2, api.OK},
		{s, 2, api.UBytes, api.UBytes, 0, api.ErrWithin},
		{s, 5, api.UBytes, api.USigns, 0, api.ErrWithin},
		{s, 7, api.UBytes, api.UPairs, 0, api.ErrWithin},
		{s, 4, api.UPairs, api.UPairs, 0, api.ErrWithin},
		{s, 5, api.UPairs, api.USigns, 4, api.OK},
		{s, 8, api.UBytes, api.UPairs, 5, api.OK},
		{s, 9, api.UBytes, api.USigns, 0, api.ErrArg},
		{s, 5, api.USigns, api.UBytes, 0, api.ErrArg},
		{s, 6, api.UPairs, api.UBytes, 0, api.ErrArg},
		{s, -1, api.UBytes, api.UBytes, 0, api.ErrArg},
		{s, math.MinInt, api.USigns, api.UBytes, 0, api.ErrArg},
		{s, math.MaxInt, api.UPairs, api.UBytes, 0, api.ErrArg},
		{"", 0, api.UBytes, api.UPairs, 0, api.OK},
		{"", 1, api.USigns, api.UBytes, 0, api.ErrArg},
	} {
		if n, e := utf.Place(c.s, c.at, c.from, c.to); n != c.n || e != c.e {
			t.Errorf("Place(%x, %d, %d, %d): %d, %v; want %d, %v", c.s, c.at, c.from, c.to, n, e, c.n, c.e)
		}
	}
}

// TestNoUnit: P102 and P7: what is no unit is told ahead of all else.
func TestNoUnit(t *testing.T) {
	for _, none := range []int{0, -1, 4, math.MinInt, math.MaxInt} {
		for _, at := range []int{0, -1, 2, 9} {
			for _, c := range [][2]int{{none, api.UBytes}, {api.UBytes, none}, {none, none}} {
				if n, e := utf.Place("\xc3\xa9\xe2\x82\xac", at, c[0], c[1]); n != 0 || e != api.ErrKind {
					t.Errorf("Place(%d, %d, %d): %d, %v; want kind", at, c[0], c[1], n, e)
				}
			}
			if s, e := utf.Cut("\xc3\xa9\xe2\x82\xac", none, at, 0); s != "" || e != api.ErrKind {
				t.Errorf("Cut(%d, %d, 0): %x, %v; want kind", none, at, s, e)
			}
		}
	}
}

// TestPlaceAny: P102, and P108's there and back, at each place of many texts.
func TestPlaceAny(t *testing.T) {
	for s := range manyTexts() {
		for _, from := range units {
			for _, to := range units {
				for at := -1; at <= len(s)+1; at++ {
					checkPlace(t, s, at, from, to)
				}
			}
		}
	}
}

func checkPlace(t *testing.T, s string, at, from, to int) {
	n, e := utf.Place(s, at, from, to)
	if want, f := wantPlace(s, at, from, to); n != want || e != f {
		t.Fatalf("Place(%x, %d, %d, %d): %d, %v; want %d, %v", s, at, from, to, n, e, want, f)
	}
	if e != api.OK {
		return
	}
	if back, e := utf.Place(s, n, to, from); back != at || e != api.OK {
		t.Fatalf("Place(%x, %d, %d, %d): %d, %v; want back %d", s, n, to, from, back, e, at)
	}
}

// TestCutExamples: P102, and P7 where several errors apply.
func TestCutExamples(t *testing.T) {
	s := "a\xc3\xa9\xc3\xf0\x9f\x98\x80"
	for _, c := range []struct {
		unit, from, to int
		want           string
		e              api.Errno
	}{
		{api.UBytes, 0, 8, s, api.OK},
		{api.UBytes, 1, 3, "\xc3\xa9", api.OK},
		{api.UBytes, 3, 3, "", api.OK},
		{api.UBytes, 8, 8, "", api.OK},
		{api.USigns, 2, 4, "\xc3\xf0\x9f\x98\x80", api.OK},
		{api.UPairs, 1, 3, "\xc3\xa9\xc3", api.OK},
		{api.UPairs, 3, 5, "\xf0\x9f\x98\x80", api.OK},
		{api.UBytes, 2, 3, "", api.ErrWithin},
		{api.UBytes, 1, 2, "", api.ErrWithin},
		{api.UBytes, 2, 2, "", api.ErrWithin},
		{api.UPairs, 3, 4, "", api.ErrWithin},
		{api.UPairs, 4, 5, "", api.ErrWithin},
		{api.USigns, 2, 1, "", api.ErrArg},
		{api.UBytes, 3, 2, "", api.ErrArg},
		{api.UBytes, 2, 9, "", api.ErrArg},
		{api.UBytes, -1, 2, "", api.ErrArg},
		{api.USigns, 0, 5, "", api.ErrArg},
		{api.UPairs, 4, 6, "", api.ErrArg},
		{api.USigns, -1, -1, "", api.ErrArg},
		{api.USigns, 9, 9, "", api.ErrArg},
		{api.UBytes, math.MinInt, math.MaxInt, "", api.ErrArg},
	} {
		if part, e := utf.Cut(s, c.unit, c.from, c.to); part != c.want || e != c.e {
			t.Errorf("Cut(%d, %d, %d): %x, %v; want %x, %v", c.unit, c.from, c.to, part, e, c.want, c.e)
		}
	}
	if part, e := utf.Cut("", api.UPairs, 0, 0); part != "" || e != api.OK {
		t.Errorf("Cut of no bytes: %x, %v", part, e)
	}
}

// wantCut tells by P102's own words what Cut answers, its unit being one.
func wantCut(s string, unit, from, to int) (string, api.Errno) {
	first, e := wantPlace(s, from, unit, api.UBytes)
	last, f := wantPlace(s, to, unit, api.UBytes)
	switch {
	case e == api.ErrArg || f == api.ErrArg || to < from:
		return "", api.ErrArg
	case e == api.ErrWithin || f == api.ErrWithin:
		return "", api.ErrWithin
	}
	return s[first:last], api.OK
}

// TestCutAny: P102, between any two places of many texts.
func TestCutAny(t *testing.T) {
	for s := range manyTexts() {
		for _, unit := range units {
			for from := -1; from <= len(s)+1; from++ {
				for to := -1; to <= len(s)+1; to++ {
					part, e := utf.Cut(s, unit, from, to)
					if want, f := wantCut(s, unit, from, to); part != want || e != f {
						t.Fatalf("Cut(%x, %d, %d, %d): %x, %v; want %x, %v", s, unit, from, to, part, e, want, f)
					}
				}
			}
		}
	}
}

// TestCutOfCut: P108: a cut of a cut is a cut, and cuts side by side do not melt.
func TestCutOfCut(t *testing.T) {
	for _, s := range samples {
		for _, unit := range units {
			l := placesOf(s)
			for i, from := range l {
				for j, to := range l[i:] {
					part, _ := utf.Cut(s, unit, from[unit], to[unit])
					for _, mid := range l[i : i+j+1] {
						checkParts(t, s, part, unit, from[unit], mid[unit], to[unit])
					}
				}
			}
		}
	}
}

func checkParts(t *testing.T, s, part string, unit, from, mid, to int) {
	front, e := utf.Cut(part, unit, 0, mid-from)
	rest, f := utf.Cut(part, unit, mid-from, to-from)
	if e != api.OK || f != api.OK {
		t.Fatalf("Cut of %x, unit %d, %d up to %d, at %d: %v, %v", s, unit, from, to, mid, e, f)
	}
	if a, _ := utf.Cut(s, unit, from, mid); a != front {
		t.Fatalf("Cut of %x, unit %d: %x; of its cut %x", s, unit, a, front)
	}
	if b, _ := utf.Cut(s, unit, mid, to); b != rest {
		t.Fatalf("Cut of %x, unit %d: %x; of its cut %x", s, unit, b, rest)
	}
	if utf.Melts(front, rest) {
		t.Fatalf("Melts(%x, %x): parts at a sign's place", front, rest)
	}
}
