package code_test

import (
	"regexp"
	"strconv"
	"testing"

	"surtitle/api"
	"surtitle/code"
)

// TestRateText: P508's RateText, and example 5.
func TestRateText(t *testing.T) {
	for _, c := range []struct {
		rate api.Rate
		want string
	}{
		{tv, "30000/1001d"}, {fast, "60000/1001d"}, {api.Rate{Num: 30000, Den: 1001}, "30000/1001"}, {film, "24000/1001"}, {pal, "25"}, {api.Rate{Num: 1, Den: 1}, "1"}, {api.Rate{Num: 25, Den: 2}, "25/2"}, {api.Rate{Num: 240000, Den: 1001}, "240000/1001"},
	} {
		if s, e := code.RateText(c.rate); s != c.want || e != api.OK {
			t.Errorf("RateText(%v): %q, %v; want %q", c.rate, s, e, c.want)
		}
	}
	for _, x := range wrongRates {
		if s, e := code.RateText(x); s != "" || e != api.ErrRate {
			t.Errorf("RateText(%v): %q, %v", x, s, e)
		}
	}
}

// TestRate: P508's Rate and its errors, in their order, and example 5.
func TestRate(t *testing.T) {
	for _, c := range []struct {
		s    string
		want api.Rate
		e    api.Errno
	}{
		{"25", pal, api.OK},
		{"24000/1001", film, api.OK},
		{"30000/1001d", tv, api.OK},
		{"60000/1001d", fast, api.OK},
		{"240", api.Rate{Num: 240, Den: 1}, api.OK},
		{"25/1", noRate, api.ErrNumber},
		{"25/1d", noRate, api.ErrNumber},
		{"999999999/1", noRate, api.ErrNumber},
		{"50/2", noRate, api.ErrRate},
		{"50/2d", noRate, api.ErrRate},
		{"25d", noRate, api.ErrRate},
		{"24000/1001d", noRate, api.ErrRate},
		{"241", noRate, api.ErrRate},
		{"1/2", noRate, api.ErrRate},
		{"0", noRate, api.ErrRate},
		{"0d", noRate, api.ErrRate},
		{"25/0", noRate, api.ErrRate},
		{"0/0", noRate, api.ErrRate},
		{"999999999", noRate, api.ErrRate},
		{"999999999/999999999d", noRate, api.ErrRate},
		{"1000000000", noRate, api.ErrNumber},
		{"25/1000000000", noRate, api.ErrNumber},
		{"99999999999999999999", noRate, api.ErrNumber},
		{"18446744073709551641", noRate, api.ErrNumber}, // 25, if it wrapped round
		{"025", noRate, api.ErrNumber},
		{"00", noRate, api.ErrNumber},
		{"25/02", noRate, api.ErrNumber},
		{"24000/01001", noRate, api.ErrNumber},
		{"", noRate, api.ErrNumber},
		{"d", noRate, api.ErrNumber},
		{"/", noRate, api.ErrNumber},
		{"/2", noRate, api.ErrNumber},
		{"25/", noRate, api.ErrNumber},
		{"25/d", noRate, api.ErrNumber},
		{"25/2/1", noRate, api.ErrNumber},
		{"25/2dd", noRate, api.ErrNumber},
		{"25D", noRate, api.ErrNumber},
		{"30000d/1001", noRate, api.ErrNumber},
		{"+25", noRate, api.ErrNumber},
		{"-25", noRate, api.ErrNumber},
		{"-0", noRate, api.ErrNumber},
		{"25.0", noRate, api.ErrNumber},
		{" 25", noRate, api.ErrNumber},
		{"25 ", noRate, api.ErrNumber},
		{"25\n", noRate, api.ErrNumber},
		{"2_5", noRate, api.ErrNumber},
		{"0x19", noRate, api.ErrNumber},
		{"٢٥", noRate, api.ErrNumber},
		{"25\xff", noRate, api.ErrNumber},
	} {
		if x, e := code.Rate(c.s); x != c.want || e != c.e {
			t.Errorf("Rate(%q): %v, %v; want %v, %v", c.s, x, e, c.want, c.e)
		}
	}
}

var rateForm = regexp.MustCompile(`^(0|[1-9][0-9]{0,8})(?:/(0|[1-9][0-9]{0,8}))?(d?)\z`)

// rateOf tells by P508's words.
func rateOf(s string) (api.Rate, api.Errno) {
	l := rateForm.FindStringSubmatch(s)
	if l == nil || l[2] == "1" {
		return noRate, api.ErrNumber
	}
	x := api.Rate{Den: 1, Drop: l[3] == "d"}
	x.Num, _ = strconv.Atoi(l[1])
	if l[2] != "" {
		x.Den, _ = strconv.Atoi(l[2])
	}
	if !isRate(x) {
		return noRate, api.ErrRate
	}
	return x, api.OK
}

// TestRateForms: P508: texts of rates with one and two changes, by the document's words; P511: what is read is written so.
func TestRateForms(t *testing.T) {
	for _, s := range []string{"25", "30000/1001d", "24000/1001", "1/2", "999999999/999999999"} {
		for _, s := range changed(s, "0123/d+-. x\x00\xff") {
			for _, s := range changed(s, "01/d") {
				want, wantE := rateOf(s)
				x, e := code.Rate(s)
				if x != want || e != wantE {
					t.Fatalf("Rate(%q): %v, %v; want %v, %v", s, x, e, want, wantE)
				}
				if e != api.OK {
					continue
				}
				if again, _ := code.RateText(x); again != s {
					t.Fatalf("RateText(%v): %q; want %q", x, again, s)
				}
			}
		}
	}
}

// TestRatesComeBack: P511.
func TestRatesComeBack(t *testing.T) {
	for num := 1; num <= 240000; num += 7 {
		for _, den := range []int{1, 2, 3, 125, 1000, 1001} {
			x := api.Rate{Num: num, Den: den}
			if !isRate(x) {
				continue
			}
			s, _ := code.RateText(x)
			if back, e := code.Rate(s); back != x || e != api.OK {
				t.Fatalf("Rate(%q): %v, %v; want %v", s, back, e, x)
			}
		}
	}
	for _, x := range rates {
		s, _ := code.RateText(x)
		if back, e := code.Rate(s); back != x || e != api.OK {
			t.Errorf("Rate(%q): %v, %v; want %v", s, back, e, x)
		}
	}
}
