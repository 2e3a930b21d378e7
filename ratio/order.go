package ratio

import "surtitle/api"

// Cmp tells -1, 0, 1, as a is below b, the same, above it.
func Cmp(a, b api.Ratio) int {
	if a == b {
		return 0
	}
	return product(a.N, b.D).compare(product(b.N, a.D))
}

// Least tells the first of the least; false: there is none.
func Least(l ...api.Ratio) (api.Ratio, bool) { return outermost(l, -1) }

// Most tells the first of the greatest; false: there is none.
func Most(l ...api.Ratio) (api.Ratio, bool) { return outermost(l, 1) }

// outermost tells the first ratio that no other one lies beyond, on that side.
func outermost(l []api.Ratio, side int) (api.Ratio, bool) {
	if len(l) == 0 {
		return api.Ratio{}, false
	}
	best := l[0]
	for _, r := range l[1:] {
		if Cmp(r, best) == side {
			best = r
		}
	}
	return best, true
}

// Time tells whether a ratio is a time (W5).
func Time(r api.Ratio) api.Errno {
	if !Right(r) || r.D > api.MaxGrid {
		return api.ErrWide
	}
	if r.N < 0 || Cmp(r, api.Ratio{N: api.MaxTime, D: 1}) > 0 {
		return api.ErrTime
	}
	return api.OK
}
