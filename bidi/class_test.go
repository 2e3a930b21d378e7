package bidi_test

import (
	"math"
	"strconv"
	"strings"
	"testing"

	"surtitle/bidi"
)

// Numbers of the classes.
const (
	cB  = 1
	cS  = 2
	cWS = 3
	cEN = 4
	cAN = 5
	cES = 6
	cET = 7
	cCS = 8
	cLI = 9
	cRI = 10
	cFI = 11
	cPI = 12
	cNM = 13
	cAL = 14
	cR  = 15
	cON = 16
	cL  = 17
)

// classTable is P401's, as the document writes it: the row of number n at n - 1.
var classTable = []string{
	"A",
	"9, B, D, 1C-1F, 85, 2029",
	"C, 20, 1680, 2000-200A, 2028, 205F, 3000",
	"30-39, B2, B3, B9, 6F0-6F9, 2070, 2074-2079, 2080-2089, FF10-FF19",
	"600-605, 660-669, 66B, 66C, 6DD",
	"2B, 2D, 207A, 207B, 208A, 208B, 2212, FF0B, FF0D",
	"23-25, A2-A5, B0, B1, 66A, 2030-2034, 20A0-20CF, FF03-FF05",
	"2C, 2E, 2F, 3A, A0, 60C, 202F, 2044, FF0C, FF0E, FF0F, FF1A",
	"2066",
	"2067",
	"2068",
	"2069",
	"300-36F, 483-489, 591-5BD, 5BF, 5C1, 5C2, 5C4, 5C5, 5C7, 610-61A, 64B-65F, 670, 6D6-6DC, 6DF-6E4, 6E7, 6E8, 6EA-6ED, 20D0-20FF, FE00-FE0F, FE20-FE2F, E0100-E01EF",
	"600-7BF, 8A0-8FF, FB50-FDFF, FE70-FEFE",
	"590-5FF, 7C0-89F, 200F, FB1D-FB4F, 10800-10FFF, 1E800-1EFFF",
	"0-8, E-1B, 21, 22, 26-2A, 3B-40, 5B-60, 7B-84, 86-9F, A1, A6-A9, AB-AF, B4, B6-B8, BB-BF, D7, F7, 200B-200D, 2010-2027, 202A-202E, 2035-205E, 2060-2065, 206A-206F, 207C-207E, 208C-208E, 2190-2211, 2213-2BFF, 3001-3004, 3008-3020, 3030, FEFF, FF01, FF02, FF06-FF0A, FF1B-FF20, FF3B-FF40, FF5B-FF65, FFF9-FFFD",
}

// pairTable is P402's, as the document writes it.
const pairTable = "28 29, 3C 3E, 5B 5D, 7B 7D, AB BB, 2039 203A, 2045 2046, 207D 207E, 208D 208E, 2208 220B, 2264 2265, 226A 226B, 27E8 27E9, 3008 3009, 300A 300B, 300C 300D, 300E 300F, 3010 3011, 3014 3015, FF08 FF09, FF1C FF1E, FF3B FF3D, FF5B FF5D"

func number(hex string) rune {
	n, e := strconv.ParseInt(hex, 16, 32)
	if e != nil {
		panic(hex)
	}
	return rune(n)
}

// readClasses tells the class of each rune that stands in the table.
func readClasses() map[rune]int {
	all := map[rune]int{}
	for i, row := range classTable {
		for _, part := range strings.Split(row, ", ") {
			from, to, two := strings.Cut(part, "-")
			if !two {
				to = from
			}
			for r := number(from); r <= number(to); r++ {
				if all[r] == 0 {
					all[r] = i + 1
				}
			}
		}
	}
	return all
}

// readPairs tells the other one of each rune that stands in the table.
func readPairs() map[rune]rune {
	all := map[rune]rune{}
	for _, part := range strings.Split(pairTable, ", ") {
		left, right, _ := strings.Cut(part, " ")
		all[number(left)], all[number(right)] = number(right), number(left)
	}
	return all
}

var (
	classes    = readClasses()
	pairs      = readPairs()
	wrongRunes = []rune{-1, -0x20, -0x5d0, math.MinInt32, 0x110000, 0x1105d0, math.MaxInt32}
)

// classOf tells a rune's class by the table.
func classOf(r rune) int {
	if n := classes[r]; n > 0 {
		return n
	}
	return cL
}

// mirrorOf tells the rune that a rune is mirrored to, by the table.
func mirrorOf(r rune) rune {
	if m, ok := pairs[r]; ok {
		return m
	}
	return r
}

// TestClass: P401: one of each row, and those that stand in two.
func TestClass(t *testing.T) {
	for _, c := range []struct {
		r    rune
		want int
	}{
		{'\n', cB}, {'\t', cS}, {'\r', cS}, {'\f', cWS}, {' ', cWS}, {'0', cEN}, {'9', cEN}, {0x6f5, cEN},
		{'+', cES}, {'-', cES}, {'#', cET}, {'%', cET}, {'.', cCS}, {':', cCS}, {0xa0, cCS},
		{0x2066, cLI}, {0x2067, cRI}, {0x2068, cFI}, {0x2069, cPI},
		{0x301, cNM}, {0x628, cAL}, {0x5d0, cR}, {0x200f, cR}, {0x200e, cL}, {0x61c, cAL},
		{'(', cON}, {0, cON}, {0xfffd, cON}, {'a', cL}, {'Z', cL}, {0xaa, cL}, {0xb5, cL}, {0xba, cL},
		{0x600, cAN}, {0x605, cAN}, {0x606, cAL}, {0x60c, cCS}, {0x610, cNM}, {0x66a, cET}, {0x66b, cAN}, {0x6dd, cAN}, {0x6de, cAL},
		{0x590, cR}, {0x591, cNM}, {0x5be, cR}, {0x5bf, cNM}, {0x7bf, cAL}, {0x7c0, cR}, {0x89f, cR}, {0x8a0, cAL}, {0x8ff, cAL}, {0x900, cL},
		{0x2211, cON}, {0x2212, cES}, {0x2213, cON}, {0xfefe, cAL}, {0xfeff, cON}, {0x1efff, cR}, {0x1f000, cL}, {0xe01ef, cNM}, {0x10ffff, cL},
	} {
		if n := bidi.Class(c.r); n != c.want {
			t.Errorf("Class(%x): %d; want %d", c.r, n, c.want)
		}
	}
}

// TestMirror: P402.
func TestMirror(t *testing.T) {
	for _, c := range []struct{ r, want rune }{
		{'(', ')'}, {')', '('}, {'<', '>'}, {'>', '<'}, {0xab, 0xbb}, {0xbb, 0xab}, {0x2208, 0x220b}, {0x220b, 0x2208},
		{0x2209, 0x2209}, {0xff5b, 0xff5d}, {0xff5d, 0xff5b}, {0xff5c, 0xff5c}, {'=', '='}, {'a', 'a'}, {0x5d0, 0x5d0}, {0, 0},
	} {
		if r := bidi.Mirror(c.r); r != c.want {
			t.Errorf("Mirror(%x): %x; want %x", c.r, r, c.want)
		}
	}
}

// TestEachRune: P401 and P402, of each rune, and of what is none.
func TestEachRune(t *testing.T) {
	for r := rune(-300); r <= 0x110300; r++ {
		if n := bidi.Class(r); n != classOf(r) {
			t.Fatalf("Class(%x): %d; want %d", r, n, classOf(r))
		}
		m := bidi.Mirror(r)
		if m != mirrorOf(r) || bidi.Mirror(m) != r {
			t.Fatalf("Mirror(%x): %x, and of that %x; want %x", r, m, bidi.Mirror(m), mirrorOf(r))
		}
	}
	for _, r := range wrongRunes {
		if n, m := bidi.Class(r), bidi.Mirror(r); n != cL || m != r {
			t.Errorf("Class(%x): %d, Mirror %x; want 17, and itself", r, n, m)
		}
	}
}
