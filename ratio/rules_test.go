package ratio_test

import (
	"slices"
	"testing"

	"surtitle/api"
	"surtitle/ratio"
)

// both tells what a call answers of two that may be errors already.
func both(call reckoning, a, b api.Ratio, errs ...api.Errno) (api.Ratio, bool) {
	for _, e := range errs {
		if e != api.OK {
			return none, false
		}
	}
	x, e := call(a, b)
	return x, e == api.OK
}

// TestLawsOfTwo: P308: sums and products know no order of two; what is taken away and laid down again is what it was.
func TestLawsOfTwo(t *testing.T) {
	for _, a := range ratios {
		for _, b := range ratios {
			for _, call := range []reckoning{ratio.Add, ratio.Mul} {
				x, e := call(a, b)
				if y, f := call(b, a); x != y || e != f {
					t.Fatalf("of %v and %v: %v, %v; turned round %v, %v", a, b, x, e, y, f)
				}
			}
			d, e := ratio.Sub(a, b)
			if x, ok := both(ratio.Add, d, b, e); ok && x != a {
				t.Fatalf("%v - %v + it: %v", a, b, x)
			}
			q, e := ratio.Div(a, b)
			if x, ok := both(ratio.Mul, q, b, e); ok && x != a {
				t.Fatalf("%v / %v * it: %v", a, b, x)
			}
		}
	}
}

// TestLawsOfThree: P308: sums and products know no order of three, and products go through sums.
func TestLawsOfThree(t *testing.T) {
	few, fits := spread(70), 0
	for _, a := range few {
		for _, b := range few {
			ab, abErr := ratio.Mul(a, b)
			sum, sumErr := ratio.Add(a, b)
			for _, c := range few {
				bc, bcErr := ratio.Mul(b, c)
				ac, acErr := ratio.Mul(a, c)
				bAndC, e := ratio.Add(b, c)
				pairs := [][2]api.Ratio{}
				lay := func(x api.Ratio, isX bool, y api.Ratio, isY bool) {
					if isX && isY {
						pairs = append(pairs, [2]api.Ratio{x, y})
					}
				}
				x, isX := both(ratio.Add, sum, c, sumErr)
				y, isY := both(ratio.Add, a, bAndC, e)
				lay(x, isX, y, isY)
				x, isX = both(ratio.Mul, ab, c, abErr)
				y, isY = both(ratio.Mul, a, bc, bcErr)
				lay(x, isX, y, isY)
				x, isX = both(ratio.Mul, a, bAndC, e)
				y, isY = both(ratio.Add, ab, ac, abErr, acErr)
				lay(x, isX, y, isY)
				for _, p := range pairs {
					fits++
					if p[0] != p[1] {
						t.Fatalf("of %v, %v, %v: %v and %v", a, b, c, p[0], p[1])
					}
				}
			}
		}
	}
	if fits < 10000 {
		t.Errorf("only %d fit: the ratios try too little", fits)
	}
}

// TestListsStay: P2: lists that are handed in are not changed, nor what lies behind them.
func TestListsStay(t *testing.T) {
	room := []api.Ratio{r(1, 2), r(-1, 3), r(5, 1), r(1, 7), r(9, 2)}
	was := slices.Clone(room)
	ratio.Sum(room[:3]...)
	ratio.Least(room[:3]...)
	ratio.Most(room[:3]...)
	if !slices.Equal(room, was) {
		t.Errorf("%v was %v", room, was)
	}
	if x, ok := ratio.Least([]api.Ratio{}...); x != none || ok {
		t.Errorf("of an empty list: %v, %v", x, ok)
	}
}

// TestNothingPanics: P1 and P9: what may not be handed in ends all the same.
func TestNothingPanics(t *testing.T) {
	for _, a := range wrong {
		for _, b := range wrong {
			ratio.Cmp(a, b)
			ratio.Least(a, b)
			ratio.Most(a, b)
		}
		ratio.Text(a)
	}
}
