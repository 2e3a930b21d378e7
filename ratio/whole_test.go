package ratio_test

import (
	"math"
	"math/big"
	"testing"

	"surtitle/api"
	"surtitle/ratio"
)

var hows = []int{api.HFloor, api.HNear, api.HCeil}

var noHows = []int{0, -1, 4, math.MaxInt, math.MinInt}

// madeWhole tells by P304's words the whole number that an exact value is made.
func madeWhole(x *big.Rat, how int) *big.Int {
	switch how {
	case api.HNear:
		x = new(big.Rat).Add(x, big.NewRat(1, 2))
	case api.HCeil:
		below := madeWhole(new(big.Rat).Neg(x), api.HFloor)
		return below.Neg(below)
	}
	return new(big.Int).Div(x.Num(), x.Denom())
}

// TestWholeExamples: P304 and example 3.
func TestWholeExamples(t *testing.T) {
	for _, c := range []struct {
		x     api.Ratio
		times int64
		want  [3]int64
	}{
		{r(7, 2), 1, [3]int64{3, 4, 4}},
		{r(-7, 2), 1, [3]int64{-4, -3, -3}},
		{r(1, 24), 1000, [3]int64{41, 42, 42}},
		{r(5, 1), -3, [3]int64{-15, -15, -15}},
		{r(-1, 3), 1, [3]int64{-1, 0, 0}},
		{r(-2, 3), 1, [3]int64{-1, -1, 0}},
		{r(2, 3), -1, [3]int64{-1, -1, 0}},
		{r(-1, 2), 1, [3]int64{-1, 0, 0}},
		{r(1, 2), 1, [3]int64{0, 1, 1}},
		{r(1, 2), -3, [3]int64{-2, -1, -1}},
		{r(5, 3), 0, [3]int64{0, 0, 0}},
		{r(0, 1), math.MinInt64, [3]int64{0, 0, 0}},
		{r(1, 2), math.MinInt64, [3]int64{-top, -top, -top}},
		{r(-1, 2), math.MinInt64, [3]int64{top, top, top}},
		{r(bottom-1, bottom), -1, [3]int64{-1, -1, 0}},
	} {
		for i, how := range hows {
			if n, e := ratio.Whole(c.x, c.times, how); n != c.want[i] || e != api.OK {
				t.Errorf("Whole(%v, %d, %d): %d, %v; want %d", c.x, c.times, how, n, e, c.want[i])
			}
		}
	}
}

// TestWholeExactly: P304: all ratios by all numbers, against exact values; ErrWide just where the answer is out of bounds.
func TestWholeExactly(t *testing.T) {
	for _, a := range ratios {
		for _, by := range numbers {
			for _, how := range hows {
				exact := madeWhole(new(big.Rat).Mul(rat(a), new(big.Rat).SetInt64(by)), how)
				want, we := int64(0), api.ErrWide
				if inRange(exact) {
					want, we = exact.Int64(), api.OK
				}
				if n, e := ratio.Whole(a, by, how); n != want || e != we {
					t.Fatalf("Whole(%v, %d, %d): %d, %v; want %d, %v", a, by, how, n, e, want, we)
				}
			}
		}
	}
}

// TestWholeBounds: P304: what is made whole may be within the bounds one way, and out of them another way.
func TestWholeBounds(t *testing.T) {
	const good, wide = api.OK, api.ErrWide
	for _, c := range []struct {
		x     api.Ratio
		times int64
		want  [3]api.Errno
	}{
		{r(1, 2), math.MaxInt64, [3]api.Errno{good, good, good}},
		{r(top, 3), 3, [3]api.Errno{good, good, good}},
		{r(top, 1), 2, [3]api.Errno{wide, wide, wide}},
		{r(top, 1), 4, [3]api.Errno{wide, wide, wide}},
		{r(-top, 1), 4, [3]api.Errno{wide, wide, wide}},
		{r(-top, 1), math.MinInt64, [3]api.Errno{wide, wide, wide}},
		// A third beyond each bound, a half, two thirds.
		{r(13, 3), (3*top + 1) / 13, [3]api.Errno{good, good, wide}},
		{r(-13, 3), (3*top + 1) / 13, [3]api.Errno{wide, good, good}},
		{r(3, 2), (2*top + 1) / 3, [3]api.Errno{good, wide, wide}},
		{r(-3, 2), (2*top + 1) / 3, [3]api.Errno{wide, good, good}},
		{r(2, 3), 3*top/2 + 1, [3]api.Errno{good, wide, wide}},
		{r(-2, 3), 3*top/2 + 1, [3]api.Errno{wide, wide, good}},
	} {
		for i, how := range hows {
			want := int64(0)
			if c.want[i] == good {
				want = madeWhole(new(big.Rat).Mul(rat(c.x), big.NewRat(c.times, 1)), how).Int64()
			}
			if n, e := ratio.Whole(c.x, c.times, how); n != want || e != c.want[i] {
				t.Errorf("Whole(%v, %d, %d): %d, %v; want %d, %v", c.x, c.times, how, n, e, want, c.want[i])
			}
		}
	}
}

// TestWholeRefuses: P304: ErrWide of r ahead of ErrArg, and that ahead of ErrWide of the answer.
func TestWholeRefuses(t *testing.T) {
	for _, how := range noHows {
		if n, e := ratio.Whole(r(1, 1), 2, how); n != 0 || e != api.ErrArg {
			t.Errorf("by %d: %d, %v", how, n, e)
		}
		if n, e := ratio.Whole(r(top, 1), 2, how); n != 0 || e != api.ErrArg {
			t.Errorf("too wide, by %d: %d, %v", how, n, e)
		}
	}
	for _, x := range wrong {
		for _, how := range append(noHows, hows...) {
			if n, e := ratio.Whole(x, 1, how); n != 0 || e != api.ErrWide {
				t.Errorf("Whole(%v, 1, %d): %d, %v", x, how, n, e)
			}
		}
	}
}

// TestSnapExamples: P305 and example 4.
func TestSnapExamples(t *testing.T) {
	for _, c := range []struct {
		x, grid api.Ratio
		how     int
		want    api.Ratio
		e       api.Errno
	}{
		{r(1, 3), r(1, 1000), api.HNear, r(333, 1000), api.OK},
		{r(1001, 24000), r(1, 1000), api.HCeil, r(21, 500), api.OK},
		{r(1001, 24000), r(1, 1000), api.HFloor, r(41, 1000), api.OK},
		{r(-1, 3), r(1, 2), api.HFloor, r(-1, 2), api.OK},
		{r(-1, 3), r(1, 2), api.HNear, r(-1, 2), api.OK},
		{r(-1, 3), r(1, 2), api.HCeil, r(0, 1), api.OK},
		{r(1, 4), r(1, 2), api.HNear, r(1, 2), api.OK},
		{r(-1, 4), r(1, 2), api.HNear, r(0, 1), api.OK},
		{r(0, 1), r(7, 3), api.HCeil, r(0, 1), api.OK},
		{r(1, bottom), r(top, 1), api.HCeil, r(top, 1), api.OK},
		{r(-1, bottom), r(top, 1), api.HFloor, r(-top, 1), api.OK},
		{r(1, bottom), r(top-1, bottom), api.HCeil, r(top-1, bottom), api.OK},
		{r(top, 1), r(1, 2), api.HFloor, none, api.ErrWide},       // k is too wide, k * grid is not
		{r(top, 1), r(top-1, 1), api.HCeil, none, api.ErrWide},    // k is 2, k * grid too wide
		{r(top, 1), r(top-1, 1), api.HFloor, r(top-1, 1), api.OK}, // k is 1
		{r(-top, 1), r(top-1, 1), api.HFloor, none, api.ErrWide},  // k is -2
	} {
		if x, e := ratio.Snap(c.x, c.grid, c.how); x != c.want || e != c.e {
			t.Errorf("Snap(%v, %v, %d): %v, %v; want %v, %v", c.x, c.grid, c.how, x, e, c.want, c.e)
		}
	}
}

// snapped tells by P305's words what Snap is to answer of right ones, the grid above 0.
func snapped(x, grid api.Ratio, how int) (api.Ratio, api.Errno) {
	k := madeWhole(new(big.Rat).Quo(rat(x), rat(grid)), how)
	if !inRange(k) {
		return none, api.ErrWide
	}
	return fit(new(big.Rat).Mul(new(big.Rat).SetInt(k), rat(grid)))
}

// TestSnapExactly: P305 and P310: all pairs of ratios and grids on the bounds.
func TestSnapExactly(t *testing.T) {
	few := spread(400)
	for _, a := range few {
		for _, grid := range few {
			if grid.N <= 0 {
				continue
			}
			for _, how := range hows {
				want, we := snapped(a, grid, how)
				x, e := ratio.Snap(a, grid, how)
				if x != want || e != we {
					t.Fatalf("Snap(%v, %v, %d): %v, %v; want %v, %v", a, grid, how, x, e, want, we)
				}
				if e == api.OK && !isNear(a, grid, x, how) {
					t.Fatalf("P310: Snap(%v, %v, %d): %v", a, grid, how, x)
				}
			}
		}
	}
}

// isNear tells by P310's words whether what was snapped lies where it is to.
func isNear(a, grid, x api.Ratio, how int) bool {
	away := new(big.Rat).Sub(rat(x), rat(a))
	half := new(big.Rat).Quo(rat(grid), big.NewRat(2, 1))
	switch how {
	case api.HFloor:
		return away.Sign() <= 0 && away.Abs(away).Cmp(rat(grid)) < 0
	case api.HCeil:
		return away.Sign() >= 0 && away.Cmp(rat(grid)) < 0
	}
	isAbove := away.Sign() > 0
	far := new(big.Rat).Abs(away).Cmp(half)
	return far < 0 || far == 0 && isAbove
}

// TestSnapRefuses: P305: ErrWide of r and of grid, ErrZero, ErrArg, ErrWide of the answer, in that order.
func TestSnapRefuses(t *testing.T) {
	for _, how := range append(noHows, hows...) {
		for _, x := range wrong {
			for _, b := range []api.Ratio{r(1, 2), r(0, 1), r(-1, 2), x} {
				if y, e := ratio.Snap(x, b, how); y != none || e != api.ErrWide {
					t.Errorf("Snap(%v, %v, %d): %v, %v", x, b, how, y, e)
				}
				if y, e := ratio.Snap(b, x, how); y != none || e != api.ErrWide {
					t.Errorf("Snap(%v, %v, %d): %v, %v", b, x, how, y, e)
				}
			}
		}
		for _, grid := range []api.Ratio{r(0, 1), r(-1, 1), r(-1, bottom), r(-top, 1)} {
			if y, e := ratio.Snap(r(1, 1), grid, how); y != none || e != api.ErrZero {
				t.Errorf("Snap(1/1, %v, %d): %v, %v", grid, how, y, e)
			}
		}
	}
	for _, how := range noHows {
		if y, e := ratio.Snap(r(top, 1), r(1, 2), how); y != none || e != api.ErrArg {
			t.Errorf("by %d: %v, %v", how, y, e)
		}
	}
}
