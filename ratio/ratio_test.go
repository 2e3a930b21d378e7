package ratio_test

import (
	"math"
	"math/big"
	"math/rand/v2"
	"testing"

	"surtitle/api"
	"surtitle/ratio"
)

const (
	top    = 1 << 62 // W4's bounds, by their own words
	bottom = 1 << 31
)

var none = api.Ratio{}

func r(n, d int64) api.Ratio { return api.Ratio{N: n, D: d} }

// numbers are whole ones on both sides of each bound, with few and with many divisors.
var numbers = []int64{
	0, 1, -1, 2, -2, 3, 4, -6, 7, 12, 30, 1000, -1001, 24000, 90000,
	1<<20 - 1, 1 << 20, 1<<20 + 1,
	bottom - 2, bottom - 1, bottom, bottom + 1, -bottom - 1, 1 << 32, 3 << 31,
	1 << 61, top - 1, 1 - top, top, -top, top + 1, -top - 1,
	math.MaxInt64, -math.MaxInt64, math.MinInt64,
}

// wrong are ratios that are not right, each for one reason, and for several.
var wrong = []api.Ratio{
	{}, r(0, 2), r(0, -1), r(2, 4), r(-6, 3), r(1, -1), r(1, 0), r(5, math.MinInt64), r(1, bottom+1), r(3, math.MaxInt64),
	r(top+1, 1), r(-top-1, 1), r(math.MinInt64, 1), r(math.MinInt64, 3), r(math.MaxInt64, 2), r(top, bottom), r(math.MinInt64, math.MinInt64),
}

// ratios are right ones: of all the numbers, of small ones, and of any size.
var ratios = makeRatios()

func makeRatios() []api.Ratio {
	seen := map[api.Ratio]bool{}
	var l []api.Ratio
	lay := func(n, d int64) {
		if d == 0 {
			return
		}
		x, e := fit(big.NewRat(n, d))
		if e == api.OK && !seen[x] {
			seen[x] = true
			l = append(l, x)
		}
	}
	for _, n := range numbers {
		for _, d := range numbers {
			lay(n, d)
		}
	}
	for n := int64(-4); n <= 4; n++ {
		for d := int64(1); d <= 4; d++ {
			lay(n, d)
		}
	}
	dice := rand.New(rand.NewPCG(3, 1))
	for range 60 {
		lay(dice.Int64()>>(1+dice.IntN(62)), 1+dice.Int64N(bottom)>>dice.IntN(31))
		lay(-dice.Int64()>>(1+dice.IntN(62)), 1+dice.Int64N(bottom)>>dice.IntN(31))
	}
	return l
}

// spread tells about so many of the ratios, of all their kinds.
func spread(n int) []api.Ratio {
	var l []api.Ratio
	for i := 0; i < len(ratios); i += len(ratios)/n + 1 {
		l = append(l, ratios[i])
	}
	return l
}

func rat(x api.Ratio) *big.Rat { return big.NewRat(x.N, x.D) }

// fit tells by W4's words the right ratio that an exact value is, or ErrWide.
func fit(x *big.Rat) (api.Ratio, api.Errno) {
	if !x.Denom().IsInt64() || x.Denom().Int64() > bottom || !inRange(x.Num()) {
		return none, api.ErrWide
	}
	return r(x.Num().Int64(), x.Denom().Int64()), api.OK
}

func inRange(k *big.Int) bool {
	return k.CmpAbs(big.NewInt(top)) <= 0
}

// isRight tells by W4's words.
func isRight(x api.Ratio) bool {
	if x.D < 1 || x.D > bottom || x.N < -top || x.N > top {
		return false
	}
	return new(big.Int).GCD(nil, nil, new(big.Int).Abs(big.NewInt(x.N)), big.NewInt(x.D)).Int64() == 1
}

// TestNew: P301's New, and example 1.
func TestNew(t *testing.T) {
	for _, c := range []struct {
		n, d int64
		want api.Ratio
		e    api.Errno
	}{
		{6, -4, r(-3, 2), api.OK},
		{-6, -4, r(3, 2), api.OK},
		{0, -7, r(0, 1), api.OK},
		{0, math.MinInt64, r(0, 1), api.OK},
		{1, 0, none, api.ErrZero},
		{0, 0, none, api.ErrZero},
		{math.MinInt64, 0, none, api.ErrZero},
		{math.MinInt64, 1, none, api.ErrWide},
		{math.MinInt64, -1, none, api.ErrWide},
		{math.MinInt64, 2, r(-top, 1), api.OK},
		{math.MinInt64, -2, r(top, 1), api.OK},
		{math.MinInt64, math.MinInt64, r(1, 1), api.OK},
		{top, math.MinInt64, r(-1, 2), api.OK},
		{1, 1 << 32, none, api.ErrWide},
		{2, 1 << 32, r(1, bottom), api.OK},
		{1, bottom + 1, none, api.ErrWide},
		{top, 1, r(top, 1), api.OK},
		{top + 1, 1, none, api.ErrWide},
		{-top - 1, 1, none, api.ErrWide},
		{math.MaxInt64, math.MaxInt64, r(1, 1), api.OK},
	} {
		if x, e := ratio.New(c.n, c.d); x != c.want || e != c.e {
			t.Errorf("New(%d, %d): %v, %v; want %v, %v", c.n, c.d, x, e, c.want, c.e)
		}
	}
	for _, n := range numbers {
		for _, d := range numbers {
			if d == 0 {
				continue
			}
			want, we := fit(big.NewRat(n, d))
			if x, e := ratio.New(n, d); x != want || e != we {
				t.Errorf("New(%d, %d): %v, %v; want %v, %v", n, d, x, e, want, we)
			}
		}
	}
}

// TestRight: P301's Right; 0 is 0 / 1 alone.
func TestRight(t *testing.T) {
	for _, x := range wrong {
		if ratio.Right(x) {
			t.Errorf("Right(%v)", x)
		}
	}
	for _, x := range []api.Ratio{r(0, 1), r(1, 1), r(-3, 2), r(top, 1), r(-top, 1), r(1, bottom), r(-1, bottom), r(top-1, bottom)} {
		if !ratio.Right(x) {
			t.Errorf("not Right(%v)", x)
		}
	}
	for _, n := range numbers {
		for _, d := range numbers {
			if x := r(n, d); ratio.Right(x) != isRight(x) {
				t.Errorf("Right(%v): %v", x, !isRight(x))
			}
		}
	}
}

type reckoning = func(a, b api.Ratio) (api.Ratio, api.Errno)

// calls are those that reckon with two ratios, beside what is to be reckoned.
var calls = []struct {
	name  string
	call  reckoning
	exact func(z, a, b *big.Rat) *big.Rat
}{
	{"Add", ratio.Add, (*big.Rat).Add},
	{"Sub", ratio.Sub, (*big.Rat).Sub},
	{"Mul", ratio.Mul, (*big.Rat).Mul},
	{"Div", ratio.Div, (*big.Rat).Quo},
}

// TestReckonExactly: P302: all pairs of ratios on the bounds, against exact values of any width.
func TestReckonExactly(t *testing.T) {
	fits := map[string]int{}
	few := spread(450)
	for _, c := range calls {
		for _, a := range few {
			for _, b := range few {
				want, we := none, api.ErrZero
				if c.name != "Div" || b.N != 0 {
					want, we = fit(c.exact(new(big.Rat), rat(a), rat(b)))
				}
				if x, e := c.call(a, b); x != want || e != we {
					t.Fatalf("%s(%v, %v): %v, %v; want %v, %v", c.name, a, b, x, e, want, we)
				}
				if we == api.OK {
					fits[c.name]++
				}
			}
		}
	}
	for _, c := range calls {
		if n := fits[c.name]; n < len(few)*10 || n == len(few)*len(few) {
			t.Errorf("%s: %d of %d fit: the ratios try too little", c.name, n, len(few)*len(few))
		}
	}
}

// TestReckonExamples: P302 and example 2.
func TestReckonExamples(t *testing.T) {
	for i, c := range []struct {
		call    reckoning
		a, b    api.Ratio
		want    api.Ratio
		wantErr api.Errno
	}{
		{ratio.Add, r(1, 3), r(1, 6), r(1, 2), api.OK},
		{ratio.Mul, r(1001, 24000), r(24, 1), r(1001, 1000), api.OK},
		{ratio.Add, r(1, 2147483647), r(1, 2147483646), none, api.ErrWide},
		{ratio.Div, r(1, 2), r(0, 1), none, api.ErrZero},
		{ratio.Div, r(0, 1), r(0, 1), none, api.ErrZero},
		{ratio.Div, r(0, 1), r(-top, 1), r(0, 1), api.OK},
		{ratio.Add, r(2, 4), r(0, 1), none, api.ErrWide},
		{ratio.Add, r(top, 1), r(-top, 1), r(0, 1), api.OK},
		{ratio.Add, r(top, 1), r(1, bottom), none, api.ErrWide},
		{ratio.Sub, r(-top, 1), r(-top, 1), r(0, 1), api.OK},
		{ratio.Sub, r(-top, 1), r(top, 1), none, api.ErrWide},
		{ratio.Mul, r(-top, 3), r(3, bottom), r(-bottom, 1), api.OK},
		{ratio.Mul, r(-top, 1), r(-top, 1), none, api.ErrWide},
		{ratio.Div, r(-top, 1), r(-top, 1), r(1, 1), api.OK},
		{ratio.Div, r(1, bottom), r(top-1, 1), none, api.ErrWide},
		{ratio.Div, r(1, bottom), r(1, bottom), r(1, 1), api.OK},
		{ratio.Div, r(bottom-1, 3), r(-top, 1), none, api.ErrWide},
		{ratio.Div, r(bottom, 1), r(-top, 1), r(-1, bottom), api.OK},
	} {
		if x, e := c.call(c.a, c.b); x != c.want || e != c.wantErr {
			t.Errorf("%d: of %v and %v: %v, %v; want %v, %v", i, c.a, c.b, x, e, c.want, c.wantErr)
		}
	}
}

// TestReckonRefuses: P302: what is not right is ErrWide on either side, ahead of a divisor of 0.
func TestReckonRefuses(t *testing.T) {
	for _, x := range wrong {
		for _, c := range calls {
			for _, b := range []api.Ratio{r(1, 2), r(0, 1), x} {
				if y, e := c.call(x, b); y != none || e != api.ErrWide {
					t.Errorf("%s(%v, %v): %v, %v", c.name, x, b, y, e)
				}
				if y, e := c.call(b, x); y != none || e != api.ErrWide {
					t.Errorf("%s(%v, %v): %v, %v", c.name, b, x, y, e)
				}
			}
		}
		if y, e := ratio.Neg(x); y != none || e != api.ErrWide {
			t.Errorf("Neg(%v): %v, %v", x, y, e)
		}
		if y, e := ratio.Sum(r(1, 2), x, r(1, 3)); y != none || e != api.ErrWide {
			t.Errorf("Sum with %v: %v, %v", x, y, e)
		}
		if y, e := ratio.Sum(x); y != none || e != api.ErrWide {
			t.Errorf("Sum(%v): %v, %v", x, y, e)
		}
	}
}

// TestNeg: P302's Neg.
func TestNeg(t *testing.T) {
	for _, a := range ratios {
		if x, e := ratio.Neg(a); x != r(-a.N, a.D) || e != api.OK {
			t.Errorf("Neg(%v): %v, %v", a, x, e)
		}
	}
}

// TestSum: P302's Sum: from 0 on, one behind the other, so that what would fit in another order does not.
func TestSum(t *testing.T) {
	for _, c := range []struct {
		l    []api.Ratio
		want api.Ratio
		e    api.Errno
	}{
		{nil, r(0, 1), api.OK},
		{[]api.Ratio{r(-3, 7)}, r(-3, 7), api.OK},
		{[]api.Ratio{r(1, 2), r(1, 3), r(1, 6)}, r(1, 1), api.OK},
		{[]api.Ratio{r(top, 1), r(-1, 1), r(1, 1)}, r(top, 1), api.OK},
		{[]api.Ratio{r(top, 1), r(1, 1), r(-1, 1)}, none, api.ErrWide},
		{[]api.Ratio{r(top, 1), r(-top, 1), r(-top, 1)}, r(-top, 1), api.OK},
		{[]api.Ratio{r(1, bottom), r(1, 3), r(-1, 3)}, none, api.ErrWide},
		{[]api.Ratio{r(1, 3), r(-1, 3), r(1, bottom)}, r(1, bottom), api.OK},
	} {
		if x, e := ratio.Sum(c.l...); x != c.want || e != c.e {
			t.Errorf("Sum(%v): %v, %v; want %v, %v", c.l, x, e, c.want, c.e)
		}
	}
	l := make([]api.Ratio, 1000)
	for i := range l {
		l[i] = r(1, 1000)
	}
	if x, e := ratio.Sum(l...); x != r(1, 1) || e != api.OK {
		t.Errorf("a thousand thousandths: %v, %v", x, e)
	}
}
