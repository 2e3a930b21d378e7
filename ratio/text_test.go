package ratio_test

import (
	"math/big"
	"regexp"
	"strings"
	"testing"

	"surtitle/api"
	"surtitle/ratio"
)

// TestText: P307's Text, and example 5.
func TestText(t *testing.T) {
	for _, c := range []struct {
		x    api.Ratio
		want string
	}{
		{r(-3, 2), "-3/2"},
		{r(5, 1), "5"},
		{r(0, 1), "0"},
		{r(-7, 1), "-7"},
		{r(1, 10), "1/10"},
		{r(top, 1), "4611686018427387904"},
		{r(-top, bottom-1), "-4611686018427387904/2147483647"},
		{r(-1, bottom), "-1/2147483648"},
	} {
		if s := ratio.Text(c.x); s != c.want {
			t.Errorf("Text(%v): %q; want %q", c.x, s, c.want)
		}
	}
}

// TestParseOfText: P309: Parse of Text is the ratio.
func TestParseOfText(t *testing.T) {
	for _, x := range ratios {
		if y, e := ratio.Parse(ratio.Text(x)); y != x || e != api.OK {
			t.Errorf("Parse(%q): %v, %v", ratio.Text(x), y, e)
		}
	}
}

// TestParse: P307's Parse: examples, the edges of each rule, and which error goes first.
func TestParse(t *testing.T) {
	nines := strings.Repeat("9", 19)
	for _, c := range []struct {
		s    string
		want api.Ratio
		e    api.Errno
	}{
		{"0", r(0, 1), api.OK},
		{"0/7", r(0, 1), api.OK},
		{"0.0", r(0, 1), api.OK},
		{"0.000000000", r(0, 1), api.OK},
		{"-7", r(-7, 1), api.OK},
		{"6/4", r(3, 2), api.OK},
		{"-6/4", r(-3, 2), api.OK},
		{"1.50", r(3, 2), api.OK},
		{"-1.50", r(-3, 2), api.OK},
		{"0.25", r(1, 4), api.OK},
		{"-0.25", r(-1, 4), api.OK},
		{"10/100", r(1, 10), api.OK},
		{"0.000000001", r(1, 1000000000), api.OK},
		{"-0.000000001", r(-1, 1000000000), api.OK},
		{"12.000000000", r(12, 1), api.OK},
		{"1.05", r(21, 20), api.OK},
		{nines + "/" + nines, r(1, 1), api.OK},
		{"-" + nines + "/" + nines, r(-1, 1), api.OK},
		{"4611686018427387904", r(top, 1), api.OK},
		{"-4611686018427387904", r(-top, 1), api.OK},
		{"4611686018427387904.000000000", r(top, 1), api.OK},
		{"9223372036854775808/2", r(top, 1), api.OK},
		{"1/2147483648", r(1, bottom), api.OK},
		{"2/4294967296", r(1, bottom), api.OK},
		{"4503599627.370495", r(4503599627370495/5, 200000), api.OK},
		{"", none, api.ErrNumber},
		{"-", none, api.ErrNumber},
		{"007", none, api.ErrNumber},
		{"00", none, api.ErrNumber},
		{"-00", none, api.ErrNumber},
		{"01/2", none, api.ErrNumber},
		{"00.5", none, api.ErrNumber},
		{"+1", none, api.ErrNumber},
		{"--1", none, api.ErrNumber},
		{"1-", none, api.ErrNumber},
		{"-0", none, api.ErrNumber},
		{"-0.00", none, api.ErrNumber},
		{"-0/5", none, api.ErrNumber},
		{"-0/" + nines + "9", none, api.ErrNumber},
		{"1.", none, api.ErrNumber},
		{".5", none, api.ErrNumber},
		{"-.5", none, api.ErrNumber},
		{".", none, api.ErrNumber},
		{"/", none, api.ErrNumber},
		{"1/", none, api.ErrNumber},
		{"/2", none, api.ErrNumber},
		{"1/03", none, api.ErrNumber},
		{"1/00", none, api.ErrNumber},
		{"1/-2", none, api.ErrNumber},
		{"1/+2", none, api.ErrNumber},
		{"1/2/3", none, api.ErrNumber},
		{"1.5/2", none, api.ErrNumber},
		{"1/2.5", none, api.ErrNumber},
		{"1.2.3", none, api.ErrNumber},
		{"1.-5", none, api.ErrNumber},
		{"1.0000000000", none, api.ErrNumber},
		{" 1", none, api.ErrNumber},
		{"1 ", none, api.ErrNumber},
		{"1\n", none, api.ErrNumber},
		{"1\x00", none, api.ErrNumber},
		{"0x1", none, api.ErrNumber},
		{"1e3", none, api.ErrNumber},
		{"1_0", none, api.ErrNumber},
		{"1,5", none, api.ErrNumber},
		{"\u0661", none, api.ErrNumber},
		{"1/\uff12", none, api.ErrNumber},
		{"1.\xff", none, api.ErrNumber},
		{"\u22121", none, api.ErrNumber},
		{nines + "9x", none, api.ErrNumber},
		{"0" + nines, none, api.ErrNumber},
		{nines + "9.", none, api.ErrNumber},
		{"1/0", none, api.ErrZero},
		{"0/0", none, api.ErrZero},
		{"-1/0", none, api.ErrZero},
		{nines + "/0", none, api.ErrZero},
		{nines + "9/0", none, api.ErrWide},
		{nines + "9", none, api.ErrWide},
		{"-" + nines + "9", none, api.ErrWide},
		{"1/" + nines + "9", none, api.ErrWide},
		{"1" + strings.Repeat("0", 19) + "/1" + strings.Repeat("0", 19), none, api.ErrWide},
		{"0/1" + strings.Repeat("0", 19), none, api.ErrWide},
		{"1" + strings.Repeat("0", 19) + ".5", none, api.ErrWide},
		{strings.Repeat("7", 5000) + "/" + strings.Repeat("7", 5000), none, api.ErrWide},
		{nines, none, api.ErrWide},
		{nines + ".999999999", none, api.ErrWide},
		{"4611686018427387904.1", none, api.ErrWide},
		{"4611686018427387905", none, api.ErrWide},
		{"-4611686018427387905", none, api.ErrWide},
		{"1/2147483649", none, api.ErrWide},
	} {
		if x, e := ratio.Parse(c.s); x != c.want || e != c.e {
			t.Errorf("Parse(%q): %v, %v; want %v, %v", c.s, x, e, c.want, c.e)
		}
	}
}

var form = regexp.MustCompile(`\A(-?)(0|[1-9][0-9]*)(?:(/)(0|[1-9][0-9]*)|\.([0-9]{1,9}))?\z`)

// parsed tells by P307's own words what Parse is to answer.
func parsed(s string) (api.Ratio, api.Errno) {
	m := form.FindStringSubmatch(s)
	if m == nil {
		return none, api.ErrNumber
	}
	isBelow, whole, isOver, under := m[1] != "", m[2], m[3] != "", m[4]
	if isBelow && strings.Trim(whole+m[5], "0") == "" {
		return none, api.ErrNumber
	}
	if len(whole) > 19 || len(under) > 19 {
		return none, api.ErrWide
	}
	if isOver && under == "0" {
		return none, api.ErrZero
	}
	x, ok := new(big.Rat).SetString(s)
	if !ok {
		panic(s)
	}
	return fit(x)
}

// allTexts calls a function with every text of at most that many of the signs.
func allTexts(signs string, most int, call func(s string)) {
	var grow func(front string, left int)
	grow = func(front string, left int) {
		call(front)
		if left > 0 {
			for _, g := range signs {
				grow(front+string(g), left-1)
			}
		}
	}
	grow("", most)
}

// TestParseAll: P307: all short texts of the signs that count, and long ones on the bounds.
func TestParseAll(t *testing.T) {
	check := func(s string) {
		want, we := parsed(s)
		if x, e := ratio.Parse(s); x != want || e != we {
			t.Fatalf("Parse(%q): %v, %v; want %v, %v", s, x, e, want, we)
		}
	}
	allTexts("-015/.", 7, check)
	parts := []string{
		"", "0", "1", "9", "-", "10", "2147483647", "2147483648", "2147483649", "4294967296",
		"999999999", "1000000000", "4611686018427387903", "4611686018427387904", "4611686018427387905",
		"9223372036854775807", "9223372036854775808", "9999999999999999999", "10000000000000000000", "18446744073709551616",
	}
	for _, a := range parts {
		for _, b := range parts {
			for _, between := range []string{"", "/", "."} {
				check(a + between + b)
				check("-" + a + between + b)
			}
		}
	}
}
