package cell_test

import (
	"math"
	"strconv"
	"strings"
	"testing"

	"surtitle/cell"
)

// The lists of P201, as the document writes them.
const (
	zeroList = "0-1F 7F-9F AD 300-36F 483-489 591-5BD 5BF 5C1-5C2 5C4-5C5 5C7 610-61A 61C 64B-65F 670 6D6-6DC 6DF-6E4 6E7-6E8 6EA-6ED E31 E34-E3A E47-E4E 1160-11FF 1AB0-1AFF 1DC0-1DFF 200B-200F 2028-202E 2060-206F 20D0-20FF 3099-309A FE00-FE0F FE20-FE2F FEFF 1F3FB-1F3FF E0000-E0FFF"
	twoList  = "1100-115F 231A-231B 2329-232A 23E9-23EC 2614-2615 26A1 2705 2728 274C 2753-2755 2795-2797 2B1B-2B1C 2E80-303E 3041-A4CF A960-A97F AC00-D7A3 F900-FAFF FE30-FE6F FF01-FF60 FFE0-FFE6 1F300-1F64F 1F680-1F6FF 1F900-1F9FF 20000-3FFFD"
	controls = "0-1F 7F-9F 61C 200E 200F 2028-202E 2066-2069"
	flags    = "1F1E6-1F1FF"
	symbols  = "2190-2BFF"
)

// read tells the runes of such a list.
func read(list string) map[rune]bool {
	all := map[rune]bool{}
	for _, part := range strings.Fields(list) {
		from, to, two := strings.Cut(part, "-")
		if !two {
			to = from
		}
		first, e := strconv.ParseInt(from, 16, 32)
		last, f := strconv.ParseInt(to, 16, 32)
		if e != nil || f != nil {
			panic(part)
		}
		for r := first; r <= last; r++ {
			all[rune(r)] = true
		}
	}
	return all
}

var (
	zeros      = read(zeroList)
	twos       = read(twoList)
	isControl  = read(controls)
	isFlag     = read(flags)
	isSymbol   = read(symbols)
	wrongRunes = []rune{-1, -0x20, math.MinInt32, 0x110000, 0x110301, math.MaxInt32}
)

// widthOf tells a rune's width by the lists.
func widthOf(r rune) int {
	switch {
	case zeros[r]:
		return 0
	case twos[r]:
		return 2
	}
	return 1
}

// TestWidth: P201, and the example 1.
func TestWidth(t *testing.T) {
	for _, c := range []struct {
		r    rune
		want int
	}{
		{'a', 1}, {' ', 1}, {'~', 1}, {0x301, 0}, {0x4e2d, 2}, {0xfffd, 1}, {-1, 1}, {0x110000, 1},
		{0x1f3fb, 0}, {0x3099, 0}, {0x1f3fa, 2}, {0x1f400, 2}, {0x3098, 2}, {0x309b, 2},
		{0, 0}, {0x1f, 0}, {0x20, 1}, {0x7e, 1}, {0x7f, 0}, {0x9f, 0}, {0xa0, 1}, {0xad, 0},
		{0x303f, 1}, {0x3fffd, 2}, {0x3fffe, 1}, {0xe0fff, 0}, {0xe1000, 1}, {0x10ffff, 1},
	} {
		if n := cell.Width(c.r); n != c.want {
			t.Errorf("Width(%x): %d; want %d", c.r, n, c.want)
		}
	}
}

// TestWidthOfAll: P201, of each rune, and of what is none.
func TestWidthOfAll(t *testing.T) {
	for r := rune(-300); r <= 0x110300; r++ {
		if n := cell.Width(r); n != widthOf(r) {
			t.Fatalf("Width(%x): %d; want %d", r, n, widthOf(r))
		}
	}
	for _, r := range wrongRunes {
		if n := cell.Width(r); n != 1 {
			t.Errorf("Width(%x): %d; want 1", r, n)
		}
	}
}
