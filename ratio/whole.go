package ratio

import "surtitle/api"

// Whole makes a ratio times so many whole.
func Whole(r api.Ratio, times int64, how int) (int64, api.Errno) {
	if !Right(r) {
		return 0, api.ErrWide
	}
	return made(product(r.N, times), uint64(r.D), 1, how)
}

// Snap brings a ratio to a whole multiple of a grid.
func Snap(r, grid api.Ratio, how int) (api.Ratio, api.Errno) {
	if !Right(r) || !Right(grid) {
		return api.Ratio{}, api.ErrWide
	}
	if grid.N <= 0 {
		return api.Ratio{}, api.ErrZero
	}
	k, e := made(product(r.N, grid.D), uint64(grid.N), uint64(r.D), how)
	if e != api.OK {
		return api.Ratio{}, e
	}
	return lowest(product(k, grid.N), uint64(grid.D))
}

// made tells the whole number that n / (d * more) is made. It divides by one behind the other, as their product may be too wide: the floor of a floor is that of all.
func made(n wide, d, more uint64, how int) (int64, api.Errno) {
	switch how {
	case api.HFloor:
		n = n.floor(d).floor(more)
	case api.HNear:
		halves := n.plus(n).floor(d).floor(more)
		n = halves.plus(widen(1)).floor(2)
	case api.HCeil:
		n = n.negative().floor(d).floor(more).negative()
	default:
		return 0, api.ErrArg
	}
	k, ok := n.narrow()
	if !ok {
		return 0, api.ErrWide
	}
	return k, api.OK
}
