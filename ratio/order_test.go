package ratio_test

import (
	"math"
	"testing"

	"surtitle/api"
	"surtitle/ratio"
)

// TestCmp: P303: all pairs of ratios on the bounds, however wide their products are; P309: the sign of Sub, where that fits.
func TestCmp(t *testing.T) {
	for _, a := range ratios {
		for _, b := range ratios {
			want := rat(a).Cmp(rat(b))
			if got := ratio.Cmp(a, b); got != want {
				t.Fatalf("Cmp(%v, %v): %d; want %d", a, b, got, want)
			}
			if d, e := ratio.Sub(a, b); e == api.OK && ratio.Cmp(d, r(0, 1)) != want {
				t.Fatalf("Sub(%v, %v) has another sign than %d: %v", a, b, want, d)
			}
		}
	}
	for _, c := range []struct {
		a, b api.Ratio
		want int
	}{
		{r(1, 3), r(1, 3), 0},
		{r(1, 3), r(1, 2), -1},
		{r(-1, 3), r(-1, 2), 1},
		{r(-1, 3), r(1, bottom), -1},
		{r(top, bottom-1), r(top-2, bottom-1), 1},
		{r(top-1, bottom), r(top, bottom-1), -1},
		{r(1-top, bottom), r(-top, bottom-1), 1},
		{r(top, 1), r(-top, 1), 1},
	} {
		if got := ratio.Cmp(c.a, c.b); got != c.want {
			t.Errorf("Cmp(%v, %v): %d; want %d", c.a, c.b, got, c.want)
		}
	}
}

// TestCmpIsTotal: P309: of three, if a is not above b, and b not above c, a is not above c.
func TestCmpIsTotal(t *testing.T) {
	few := spread(80)
	for _, a := range few {
		for _, b := range few {
			if ratio.Cmp(a, b) != -ratio.Cmp(b, a) || (ratio.Cmp(a, b) == 0) != (a == b) {
				t.Fatalf("%v and %v: %d, %d", a, b, ratio.Cmp(a, b), ratio.Cmp(b, a))
			}
			for _, c := range few {
				if ratio.Cmp(a, b) <= 0 && ratio.Cmp(b, c) <= 0 && ratio.Cmp(a, c) > 0 {
					t.Fatalf("%v, %v, %v are out of order", a, b, c)
				}
			}
		}
	}
}

// TestLeastMost: P303's Least and Most.
func TestLeastMost(t *testing.T) {
	for _, c := range []struct {
		l           []api.Ratio
		least, most api.Ratio
		ok          bool
	}{
		{nil, none, none, false},
		{[]api.Ratio{r(-1, 3)}, r(-1, 3), r(-1, 3), true},
		{[]api.Ratio{r(0, 1)}, r(0, 1), r(0, 1), true},
		{[]api.Ratio{r(1, 2), r(-1, 3), r(1, 6)}, r(-1, 3), r(1, 2), true},
		{[]api.Ratio{r(-1, 3), r(1, 2)}, r(-1, 3), r(1, 2), true},
		{[]api.Ratio{r(2, 1), r(1, 1), r(2, 1), r(1, 1)}, r(1, 1), r(2, 1), true},
		{[]api.Ratio{r(1, bottom), r(1, bottom-1), r(1, bottom-2)}, r(1, bottom), r(1, bottom-2), true},
		{[]api.Ratio{r(-top, 3), r(1-top, 3), r(-top, 5)}, r(-top, 3), r(-top, 5), true},
	} {
		if x, ok := ratio.Least(c.l...); x != c.least || ok != c.ok {
			t.Errorf("Least(%v): %v, %v", c.l, x, ok)
		}
		if x, ok := ratio.Most(c.l...); x != c.most || ok != c.ok {
			t.Errorf("Most(%v): %v, %v", c.l, x, ok)
		}
	}
	least, _ := ratio.Least(ratios...)
	most, _ := ratio.Most(ratios...)
	if least != r(-top, 1) || most != r(top, 1) {
		t.Errorf("of all: %v, %v", least, most)
	}
}

// TestTime: P306 and W5, ErrWide ahead of ErrTime.
func TestTime(t *testing.T) {
	for _, c := range []struct {
		x    api.Ratio
		want api.Errno
	}{
		{r(0, 1), api.OK},
		{r(1, 1<<20), api.OK},
		{r(360000, 1), api.OK},
		{r(360000<<20-1, 1<<20), api.OK},
		{r(1, 1<<20+1), api.ErrWide},
		{r(-1, 1<<20+1), api.ErrWide},
		{r(1<<50, 1<<20+1), api.ErrWide},
		{r(360000<<20+1, 1<<20), api.ErrTime},
		{r(360001, 1), api.ErrTime},
		{r(720001, 2), api.ErrTime},
		{r(-1, 1<<20), api.ErrTime},
		{r(-1, 2), api.ErrTime},
		{r(-top, 1), api.ErrTime},
		{r(top, 1), api.ErrTime},
		{r(top+1, 1), api.ErrWide},
		{r(math.MinInt64, 1), api.ErrWide},
	} {
		if e := ratio.Time(c.x); e != c.want {
			t.Errorf("Time(%v): %v; want %v", c.x, e, c.want)
		}
	}
	for _, x := range wrong {
		if e := ratio.Time(x); e != api.ErrWide {
			t.Errorf("Time(%v): %v", x, e)
		}
	}
}
