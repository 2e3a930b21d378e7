package code_test

import (
	"math"
	"math/big"
	"math/rand/v2"
	"regexp"
	"strconv"
	"strings"
	"testing"

	"surtitle/api"
	"surtitle/code"
)

var clocks = []int{api.FSrt, api.FVtt, api.FAss}

var noClocks = []int{0, api.FFrm, api.FCount, -1, math.MaxInt, math.MinInt}

// TestClock: P506, P507, and example 4.
func TestClock(t *testing.T) {
	for _, c := range []struct {
		format int
		at     api.Ratio
		want   string
	}{
		{api.FSrt, r(7, 2), "00:00:03,500"},
		{api.FSrt, r(0, 1), "00:00:00,000"},
		{api.FSrt, r(1, 1000), "00:00:00,001"},
		{api.FSrt, r(3599999, 1000), "00:59:59,999"},
		{api.FSrt, r(3600, 1), "01:00:00,000"},
		{api.FSrt, r(359999, 1), "99:59:59,000"},
		{api.FSrt, r(360000, 1), "100:00:00,000"},
		{api.FVtt, r(360000, 1), "100:00:00.000"},
		{api.FVtt, r(125, 2), "00:01:02.500"},
		{api.FVtt, r(36000, 1), "10:00:00.000"},
		{api.FAss, r(3601, 1), "1:00:01.00"},
		{api.FAss, r(0, 1), "0:00:00.00"},
		{api.FAss, r(1, 100), "0:00:00.01"},
		{api.FAss, r(35999, 1), "9:59:59.00"},
		{api.FAss, r(36000, 1), "10:00:00.00"},
		{api.FAss, r(360000, 1), "100:00:00.00"},
	} {
		if s, e := code.Clock(c.format, c.at); s != c.want || e != api.OK {
			t.Errorf("Clock(%d, %v): %q, %v; want %q", c.format, c.at, s, e, c.want)
		}
		if x, e := code.ParseClock(c.format, c.want); x != c.at || e != api.OK {
			t.Errorf("ParseClock(%d, %q): %v, %v; want %v", c.format, c.want, x, e, c.at)
		}
	}
}

// TestClockRefuses: P506's errors, in their order.
func TestClockRefuses(t *testing.T) {
	for at, want := range wrongTimes {
		for _, f := range clocks {
			if s, e := code.Clock(f, at); s != "" || e != want {
				t.Errorf("Clock(%d, %v): %q, %v; want %v", f, at, s, e, want)
			}
		}
		for _, f := range noClocks {
			if s, e := code.Clock(f, at); s != "" || e != api.ErrKind {
				t.Errorf("Clock(%d, %v): %q, %v", f, at, s, e)
			}
		}
	}
	for _, f := range noClocks {
		if s, e := code.Clock(f, r(1, 1)); s != "" || e != api.ErrKind {
			t.Errorf("Clock(%d, 1): %q, %v", f, s, e)
		}
	}
	for _, f := range clocks {
		for _, at := range []api.Ratio{r(1, 3), r(1, 2000), r(1001, 24000), r(360000<<20-1, 1<<20), r(1, 1024)} {
			if s, e := code.Clock(f, at); s != "" || e != api.ErrArg {
				t.Errorf("Clock(%d, %v): %q, %v", f, at, s, e)
			}
		}
	}
	if s, e := code.Clock(api.FAss, r(1, 1000)); s != "" || e != api.ErrArg {
		t.Errorf("Clock(FAss, 1/1000): %q, %v", s, e)
	}
}

// clockForms are P507's words.
var clockForms = map[int]*regexp.Regexp{
	api.FSrt: regexp.MustCompile(`^([0-9]{2}|[1-9][0-9]{2}):([0-5][0-9]):([0-5][0-9]),([0-9]{3})\z`),
	api.FVtt: regexp.MustCompile(`^(?:([0-9]{2}|[1-9][0-9]{2}):)?([0-5][0-9]):([0-5][0-9])\.([0-9]{3})\z`),
	api.FAss: regexp.MustCompile(`^([0-9]|[1-9][0-9]{1,2}):([0-5][0-9]):([0-5][0-9])\.([0-9]{2})\z`),
}

// clockOf tells by P507's words.
func clockOf(format int, s string) (api.Ratio, api.Errno) {
	l := clockForms[format].FindStringSubmatch(s)
	if l == nil {
		return none, api.ErrNumber
	}
	part := func(s string) int64 {
		n, _ := strconv.ParseInt(s, 10, 64)
		return n
	}
	per := map[int]int64{api.FSrt: 1000, api.FVtt: 1000, api.FAss: 100}[format]
	x := new(big.Rat).Add(big.NewRat(part(l[1])*3600+part(l[2])*60+part(l[3]), 1), big.NewRat(part(l[4]), per))
	if x.Cmp(big.NewRat(360000, 1)) > 0 {
		return none, api.ErrTime
	}
	return r(x.Num().Int64(), x.Denom().Int64()), api.OK
}

// TestParseClock: P507 and its errors, in their order, and example 4.
func TestParseClock(t *testing.T) {
	for _, c := range []struct {
		format int
		s      string
		want   api.Ratio
		e      api.Errno
	}{
		{api.FVtt, "01:02.500", r(125, 2), api.OK},
		{api.FVtt, "00:00.000", r(0, 1), api.OK},
		{api.FVtt, "59:59.999", r(3599999, 1000), api.OK},
		{api.FVtt, "60:00.000", none, api.ErrNumber},
		{api.FVtt, "1:02.500", none, api.ErrNumber},
		{api.FVtt, ":01:02.500", none, api.ErrNumber},
		{api.FVtt, "1:01:02.500", none, api.ErrNumber},
		{api.FVtt, "01:01:02,500", none, api.ErrNumber},
		{api.FVtt, "999:01:02.500", none, api.ErrTime},
		{api.FSrt, "01:02,500", none, api.ErrNumber},
		{api.FSrt, "00:01:02.500", none, api.ErrNumber},
		{api.FSrt, "00:01:02,50", none, api.ErrNumber},
		{api.FSrt, "00:01:02,5000", none, api.ErrNumber},
		{api.FSrt, "00:01:60,500", none, api.ErrNumber},
		{api.FSrt, "000:01:02,500", none, api.ErrNumber},
		{api.FSrt, "1000:01:02,500", none, api.ErrNumber},
		{api.FSrt, "100:00:00,000", r(360000, 1), api.OK},
		{api.FSrt, "100:00:00,001", none, api.ErrTime},
		{api.FSrt, "999:59:59,999", none, api.ErrTime},
		{api.FAss, "00:00:01.00", none, api.ErrNumber},
		{api.FAss, "0:00:01.00", r(1, 1), api.OK},
		{api.FAss, "10:00:01.50", r(72003, 2), api.OK},
		{api.FAss, "010:00:01.00", none, api.ErrNumber},
		{api.FAss, "1000:00:01.00", none, api.ErrNumber},
		{api.FAss, "00:01.00", none, api.ErrNumber},
		{api.FAss, "0:00:01.000", none, api.ErrNumber},
		{api.FAss, "100:00:00.01", none, api.ErrTime},
		{api.FSrt, "", none, api.ErrNumber},
		{api.FVtt, ":", none, api.ErrNumber},
		{api.FAss, "\xff:00:01.00", none, api.ErrNumber},
	} {
		if x, e := code.ParseClock(c.format, c.s); x != c.want || e != c.e {
			t.Errorf("ParseClock(%d, %q): %v, %v; want %v, %v", c.format, c.s, x, e, c.want, c.e)
		}
	}
	for _, f := range noClocks {
		for _, s := range []string{"00:00:01,000", "999:00:00.000", "", "x"} {
			if x, e := code.ParseClock(f, s); x != none || e != api.ErrKind {
				t.Errorf("ParseClock(%d, %q): %v, %v", f, s, x, e)
			}
		}
	}
}

// TestClockForms: P507: clocks with one and two changes, by the document's words.
func TestClockForms(t *testing.T) {
	for _, s := range []string{"00:01:02,500", "12:34:56.789", "100:00:00.000", "1:00:01.05", "59:59.999", "100:00:00,000"} {
		for _, s := range changed(s, someSigns) {
			for _, s := range changed(s, "05:.") {
				for _, f := range clocks {
					want, wantE := clockOf(f, s)
					if x, e := code.ParseClock(f, s); x != want || e != wantE {
						t.Fatalf("ParseClock(%d, %q): %v, %v; want %v, %v", f, s, x, e, want, wantE)
					}
				}
			}
		}
	}
}

// TestClocksComeBack: P511: times on a format's grid come back, whatever hours they have; what is read without an error is written with as much behind the hours.
func TestClocksComeBack(t *testing.T) {
	dice := rand.New(rand.NewPCG(5, 6))
	for _, f := range clocks {
		per := map[int]int64{api.FSrt: 1000, api.FVtt: 1000, api.FAss: 100}[f]
		for i := range int64(20000) {
			n := []int64{i, 360000*per - i, dice.Int64N(360000*per + 1), i * per * 30 % (360000 * per)}[i%4]
			exact := big.NewRat(n, per)
			at := r(exact.Num().Int64(), exact.Denom().Int64())
			s, e := code.Clock(f, at)
			if e != api.OK {
				t.Fatalf("Clock(%d, %v): %v", f, at, e)
			}
			if x, e := code.ParseClock(f, s); x != at || e != api.OK {
				t.Fatalf("ParseClock(%d, %q): %v, %v; want %v", f, s, x, e, at)
			}
			if x, e := clockOf(f, s); x != at || e != api.OK {
				t.Fatalf("Clock(%d, %v): %q", f, at, s)
			}
		}
	}
}

// TestAllTimesOnGrids: P506: a time has a clock just where it is a whole multiple of the grid.
func TestAllTimesOnGrids(t *testing.T) {
	for d := int64(1); d <= 2100; d++ {
		for _, n := range []int64{1, 7, 1001, 359999*d + 1} {
			exact := big.NewRat(n, d)
			at := r(exact.Num().Int64(), exact.Denom().Int64())
			if at.N > 360000*at.D {
				continue
			}
			for _, f := range clocks {
				per := map[int]int64{api.FSrt: 1000, api.FVtt: 1000, api.FAss: 100}[f]
				want := api.ErrArg
				if new(big.Rat).Mul(exact, big.NewRat(per, 1)).IsInt() {
					want = api.OK
				}
				if s, e := code.Clock(f, at); e != want || (s == "") != (e != api.OK) {
					t.Fatalf("Clock(%d, %v): %q, %v; want %v", f, at, s, e, want)
				}
			}
		}
	}
}

// TestLongTexts: P1: long texts are refused soon.
func TestLongTexts(t *testing.T) {
	for _, part := range []string{"0", "1", ":", "00:", "9/", "d", "\xff"} {
		s := strings.Repeat(part, 1<<20)
		for _, f := range clocks {
			if x, e := code.ParseClock(f, s); x != none || e != api.ErrNumber {
				t.Errorf("ParseClock(%d, %q ..): %v, %v", f, part, x, e)
			}
		}
		if n, e := code.Number(pal, s); n != 0 || e != api.ErrNumber {
			t.Errorf("Number(25, %q ..): %d, %v", part, n, e)
		}
		if x, e := code.Rate(s); x != noRate || e != api.ErrNumber {
			t.Errorf("Rate(%q ..): %v, %v", part, x, e)
		}
	}
}
