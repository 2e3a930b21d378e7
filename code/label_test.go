package code_test

import (
	"fmt"
	"math"
	"math/big"
	"math/rand/v2"
	"regexp"
	"strconv"
	"testing"

	"surtitle/api"
	"surtitle/code"
)

// fullOf tells the full rate by the document's words.
func fullOf(x api.Rate) int {
	f := x.Num / x.Den
	if f*x.Den < x.Num {
		f++
	}
	return f
}

// dropOf tells the document's d.
func dropOf(x api.Rate) int {
	return map[bool]map[int]int{true: {30: 2, 60: 4}}[x.Drop][fullOf(x)]
}

// labelText writes a label; it may be one that is left out.
func labelText(x api.Rate, h, m, s, f int) string {
	mark := map[bool]string{false: ":", true: ";"}[x.Drop]
	digits := max(2, len(strconv.Itoa(fullOf(x)-1)))
	return fmt.Sprintf("%02d:%02d:%02d%s%0*d", h, m, s, mark, digits, f)
}

// TestLabel: P504, P505, and example 3.
func TestLabel(t *testing.T) {
	for _, c := range []struct {
		rate  api.Rate
		frame int64
		want  string
	}{
		{tv, 0, "00:00:00;00"},
		{tv, 1799, "00:00:59;29"},
		{tv, 1800, "00:01:00;02"},
		{tv, 3597, "00:01:59;29"},
		{tv, 3598, "00:02:00;02"},
		{tv, 17981, "00:09:59;29"},
		{tv, 17982, "00:10:00;00"},
		{tv, 107892, "01:00:00;00"},
		{tv, 10789210, "100:00:00;10"},
		{fast, 3599, "00:00:59;59"},
		{fast, 3600, "00:01:00;04"},
		{fast, 35964, "00:10:00;00"},
		{api.Rate{Num: 30000, Den: 1001}, 1800, "00:01:00:00"},
		{film, 23, "00:00:00:23"},
		{film, 24, "00:00:01:00"},
		{pal, 9000000, "100:00:00:00"},
		{pal, 8999999, "99:59:59:24"},
		{pal, 90000 * 10, "10:00:00:00"},
		{api.Rate{Num: 1, Den: 1}, 3661, "01:01:01:00"},
		{api.Rate{Num: 100, Den: 1}, 99, "00:00:00:99"},
		{api.Rate{Num: 101, Den: 1}, 99, "00:00:00:099"},
		{api.Rate{Num: 201, Den: 2}, 100, "00:00:00:100"},
		{api.Rate{Num: 201, Den: 2}, 101, "00:00:01:000"},
		{api.Rate{Num: 199, Den: 2}, 100, "00:00:01:00"},
		{api.Rate{Num: 240, Den: 1}, 86400000, "100:00:00:000"},
		{api.Rate{Num: 1001, Den: 1000}, 360360, "50:03:00:00"},
	} {
		if s, e := code.Label(c.rate, c.frame); s != c.want || e != api.OK {
			t.Errorf("Label(%v, %d): %q, %v; want %q", c.rate, c.frame, s, e, c.want)
		}
		if n, e := code.Number(c.rate, c.want); n != c.frame || e != api.OK {
			t.Errorf("Number(%v, %q): %d, %v; want %d", c.rate, c.want, n, e, c.frame)
		}
	}
}

// TestLabelRefuses: P504's errors, in their order.
func TestLabelRefuses(t *testing.T) {
	for _, x := range rates {
		for _, n := range []int64{-1, math.MinInt64, lastOf(x) + 1, math.MaxInt64, 1 << 62} {
			if s, e := code.Label(x, n); s != "" || e != api.ErrTime {
				t.Errorf("Label(%v, %d): %q, %v", x, n, s, e)
			}
		}
	}
	for _, x := range wrongRates {
		for _, n := range []int64{0, -1, math.MaxInt64} {
			if s, e := code.Label(x, n); s != "" || e != api.ErrRate {
				t.Errorf("Label(%v, %d): %q, %v", x, n, s, e)
			}
		}
	}
}

// walk goes through all numbers of some hours, as the document's words count them: a label that is left out has no frame.
func walk(t *testing.T, x api.Rate, frame int64, hours, minutes int) {
	t.Helper()
	full, left := fullOf(x), dropOf(x)
	for i := range minutes {
		h, m := hours+i/60, i%60
		for at := range 60 * full {
			label := labelText(x, h, m, at/full, at%full)
			n, e := code.Number(x, label)
			if m%10 != 0 && at < left {
				if n != 0 || e != api.ErrDrop {
					t.Fatalf("Number(%v, %q): %d, %v", x, label, n, e)
				}
				continue
			}
			if frame > lastOf(x) {
				if n != 0 || e != api.ErrTime {
					t.Fatalf("Number(%v, %q): %d, %v", x, label, n, e)
				}
				frame++
				continue
			}
			if n != frame || e != api.OK {
				t.Fatalf("Number(%v, %q): %d, %v; want %d", x, label, n, e, frame)
			}
			if s, e := code.Label(x, frame); s != label || e != api.OK {
				t.Fatalf("Label(%v, %d): %q, %v; want %q", x, frame, s, e, label)
			}
			frame++
		}
	}
}

// TestLabelsCounted: P504, P505, P510: labels one by one, in the order in which they rise, beside frames counted up; the last ones ahead of MaxTime, and those behind it.
func TestLabelsCounted(t *testing.T) {
	for _, x := range rates[:26] {
		full, left := int64(fullOf(x)), int64(dropOf(x))
		hour := 6 * (600*full - 9*left)
		first := 3
		if x.Drop {
			first = 72 // over an hour, and ten minutes behind it
		}
		walk(t, x, 0, 0, first)
		walk(t, x, 23*hour, 23, 11)
		end := lastOf(x) / hour
		walk(t, x, end*hour, int(end), 4)
		if end > 0 {
			walk(t, x, (end-1)*hour, int(end-1), 3)
		}
	}
}

// TestNumberRefuses: P505's errors, in their order, and example 3.
func TestNumberRefuses(t *testing.T) {
	for _, c := range []struct {
		rate  api.Rate
		label string
		want  api.Errno
	}{
		{tv, "00:01:00;00", api.ErrDrop},
		{tv, "00:01:00;01", api.ErrDrop},
		{tv, "00:01:00;02", api.OK},
		{tv, "00:01:01;00", api.OK},
		{tv, "00:10:00;01", api.OK},
		{tv, "00:11:00;01", api.ErrDrop},
		{tv, "01:00:00;00", api.OK},
		{tv, "999:09:00;01", api.ErrDrop},
		{tv, "999:10:00;01", api.ErrTime},
		{tv, "100:00:00;10", api.OK},
		{tv, "100:00:00;11", api.ErrTime},
		{tv, "00:01:00:02", api.ErrNumber},
		{tv, "00:01:00;30", api.ErrNumber},
		{fast, "00:01:00;03", api.ErrDrop},
		{fast, "00:01:00;04", api.OK},
		{fast, "00:01:00;59", api.OK},
		{fast, "00:01:00;60", api.ErrNumber},
		{api.Rate{Num: 30000, Den: 1001}, "00:01:00:01", api.OK},
		{api.Rate{Num: 30000, Den: 1001}, "00:01:00;02", api.ErrNumber},
		{pal, "100:00:00:00", api.OK},
		{pal, "100:00:00:01", api.ErrTime},
		{pal, "999:59:59:24", api.ErrTime},
		{pal, "1000:00:00:00", api.ErrNumber},
		{pal, "099:00:00:00", api.ErrNumber},
		{pal, "0:00:00:00", api.ErrNumber},
		{pal, "00:60:00:00", api.ErrNumber},
		{pal, "00:00:60:00", api.ErrNumber},
		{pal, "00:00:00:25", api.ErrNumber},
		{pal, "00:00:00:024", api.ErrNumber},
		{pal, "00:00:00:0", api.ErrNumber},
		{pal, "00:00:00", api.ErrNumber},
		{pal, ":00:00:00", api.ErrNumber},
		{pal, "", api.ErrNumber},
		{pal, "00:00:00:00 ", api.ErrNumber},
		{pal, " 00:00:00:00", api.ErrNumber},
		{pal, "+1:00:00:00", api.ErrNumber},
		{pal, "-1:00:00:00", api.ErrNumber},
		{pal, "00:+1:00:00", api.ErrNumber},
		{pal, "00:00:00:0\xff", api.ErrNumber},
		{pal, "٠٠:00:00:00", api.ErrNumber},
		{api.Rate{Num: 101, Den: 1}, "00:00:00:99", api.ErrNumber},
		{api.Rate{Num: 101, Den: 1}, "00:00:00:100", api.OK},
		{api.Rate{Num: 101, Den: 1}, "00:00:00:101", api.ErrNumber},
		{api.Rate{Num: 1, Den: 1}, "00:00:00:01", api.ErrNumber},
		{noRate, "00:00:00:00", api.ErrRate},
		{noRate, "", api.ErrRate},
		{api.Rate{Num: 30, Den: 1, Drop: true}, "00:01:00;00", api.ErrRate},
	} {
		n, e := code.Number(c.rate, c.label)
		if e != c.want || e != api.OK && n != 0 {
			t.Errorf("Number(%v, %q): %d, %v; want %v", c.rate, c.label, n, e, c.want)
		}
	}
}

// labelForm is P505's words of a rate's labels.
func labelForm(x api.Rate) *regexp.Regexp {
	mark := map[bool]string{false: ":", true: ";"}[x.Drop]
	digits := max(2, len(strconv.Itoa(fullOf(x)-1)))
	return regexp.MustCompile(fmt.Sprintf(`^(?:[0-9]{2}|[1-9][0-9]{2}):[0-5][0-9]:[0-5][0-9]%s([0-9]{%d})\z`, mark, digits))
}

// isLabel tells by P505's words whether a text is a label, left out or not.
func isLabel(x api.Rate, form *regexp.Regexp, s string) bool {
	l := form.FindStringSubmatch(s)
	if l == nil {
		return false
	}
	n, _ := strconv.Atoi(l[1])
	return n < fullOf(x)
}

// changed tells texts that differ from one at one place.
func changed(s, signs string) []string {
	l := []string{s}
	for i := range len(s) + 1 {
		for j := range len(signs) {
			l = append(l, s[:i]+signs[j:j+1]+s[i:])
			if i < len(s) {
				l = append(l, s[:i]+signs[j:j+1]+s[i+1:])
			}
		}
		if i < len(s) {
			l = append(l, s[:i]+s[i+1:], s[:i])
		}
	}
	return l
}

const someSigns = "012569:;,. +-/x\x00\xff\n"

// TestLabelForms: P505: labels with one and two changes, by the document's words; P510: what has a frame is that frame's label.
func TestLabelForms(t *testing.T) {
	for _, c := range []struct {
		rate  api.Rate
		label string
	}{
		{tv, "00:01:00;02"}, {tv, "100:00:00;10"}, {pal, "12:34:56:07"}, {api.Rate{Num: 240, Den: 1}, "100:00:00:000"}, {api.Rate{Num: 101, Den: 1}, "01:59:59:100"},
	} {
		form := labelForm(c.rate)
		for _, s := range changed(c.label, someSigns) {
			for _, s := range changed(s, "05:") {
				n, e := code.Number(c.rate, s)
				if (e == api.ErrNumber) == isLabel(c.rate, form, s) || e != api.OK && n != 0 {
					t.Fatalf("Number(%v, %q): %d, %v", c.rate, s, n, e)
				}
				if e != api.OK {
					continue
				}
				if again, _ := code.Label(c.rate, n); again != s {
					t.Fatalf("Label(%v, %d): %q; want %q", c.rate, n, again, s)
				}
			}
		}
	}
}

// TestLabelsRise: P510: a label of any frame comes back, and is below that of any later one, longer hours behind shorter ones.
func TestLabelsRise(t *testing.T) {
	dice := rand.New(rand.NewPCG(5, 5))
	for _, x := range rates {
		for range 300 {
			n := dice.Int64N(lastOf(x))
			m := n + 1 + dice.Int64N(lastOf(x)-n)>>dice.IntN(40)
			a, _ := code.Label(x, n)
			b, _ := code.Label(x, m)
			if len(a) > len(b) || len(a) == len(b) && a >= b {
				t.Fatalf("%v: %d has %q, %d has %q", x, n, a, m, b)
			}
			if back, e := code.Number(x, a); back != n || e != api.OK {
				t.Fatalf("Number(%v, %q): %d, %v; want %d", x, a, back, e, n)
			}
		}
	}
}

// TestDropKeepsTime: P510: with Drop, at each ten minutes of a day, a label says less than a tenth of a second more than Time.
func TestDropKeepsTime(t *testing.T) {
	for _, x := range []api.Rate{tv, fast} {
		for ten := range 24 * 6 {
			n, e := code.Number(x, labelText(x, ten/6, ten%6*10, 0, 0))
			if e != api.OK {
				t.Fatal(e)
			}
			at, _ := code.Time(x, n)
			more := new(big.Rat).Sub(big.NewRat(int64(600*ten), 1), rat(at))
			if more.Sign() < 0 || more.Cmp(big.NewRat(1, 10)) >= 0 {
				t.Errorf("%v: at %d0 minutes: %v more", x, ten, more)
			}
		}
	}
}
