package utf

import (
	"iter"
	"strings"
	"surtitle/api"
)

// spot is one place of a text, told in each unit: by UBytes, USigns, UPairs.
type spot [api.UPairs + 1]int

// spots goes over the places that lie within no sign, from the text's beginning to its end.
func spots(s string) iter.Seq[spot] {
	return func(yield func(spot) bool) {
		var p spot
		for g := range Signs(s) {
			if !yield(p) {
				return
			}
			p[api.UBytes] += g.Len
			p[api.USigns]++
			p[api.UPairs] += pairsOf(g.Rune)
		}
		yield(p)
	}
}

// find tells a place, that is told in one unit, in all of them.
func find(s string, unit, at int) (spot, api.Errno) {
	if at < 0 {
		return spot{}, api.ErrArg
	}
	for p := range spots(s) {
		if p[unit] == at {
			return p, api.OK
		}
		if p[unit] > at {
			return spot{}, api.ErrWithin
		}
	}
	return spot{}, api.ErrArg
}

func isUnit(unit int) bool {
	return unit == api.UBytes || unit == api.USigns || unit == api.UPairs
}

// Place tells a place in another unit.
func Place(s string, at, from, to int) (int, api.Errno) {
	if !isUnit(from) || !isUnit(to) {
		return 0, api.ErrKind
	}
	p, e := find(s, from, at)
	return p[to], e
}

// Cut tells the part from one place to another, by a unit.
func Cut(s string, unit, from, to int) (string, api.Errno) {
	if !isUnit(unit) {
		return "", api.ErrKind
	}
	first, e := find(s, unit, from)
	last, f := find(s, unit, to)
	if e == api.ErrArg || f == api.ErrArg || to < from {
		return "", api.ErrArg
	}
	if e != api.OK || f != api.OK {
		return "", api.ErrWithin
	}
	return strings.Clone(s[first[api.UBytes]:last[api.UBytes]]), api.OK
}
