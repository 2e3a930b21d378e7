package retime_test

import (
	"math/big"
	"math/rand/v2"
	"slices"

	"surtitle/api"
	"surtitle/retime"
)

// Here the chapter's words are followed a second time, slowly and in exact fractions of any width: each step is held against W4 by itself.

const (
	top    = 1 << 62
	bottom = 1 << 31
)

func r(n, d int64) api.Ratio { return api.Ratio{N: n, D: d} }

func w(n int64) api.Ratio { return r(n, 1) }

func rat(x api.Ratio) *big.Rat { return big.NewRat(x.N, x.D) }

// fit tells by W4's words the right ratio that an exact value is; false: there is none.
func fit(x *big.Rat) (api.Ratio, bool) {
	if !x.Denom().IsInt64() || x.Denom().Int64() > bottom || x.Num().CmpAbs(big.NewInt(top)) > 0 {
		return api.Ratio{}, false
	}
	return r(x.Num().Int64(), x.Denom().Int64()), true
}

func isRight(x api.Ratio) bool {
	if x.D < 1 || x.D > bottom || x.N < -top || x.N > top {
		return false
	}
	return new(big.Int).GCD(nil, nil, new(big.Int).Abs(big.NewInt(x.N)), big.NewInt(x.D)).Int64() == 1
}

// desk reckons step by step, and remembers whether one of them did not fit.
type desk struct{ wide bool }

func (d *desk) step(x *big.Rat) api.Ratio {
	y, ok := fit(x)
	if d.wide = d.wide || !ok; d.wide {
		return w(1)
	}
	return y
}

func (d *desk) add(a, b api.Ratio) api.Ratio { return d.step(new(big.Rat).Add(rat(a), rat(b))) }
func (d *desk) sub(a, b api.Ratio) api.Ratio { return d.step(new(big.Rat).Sub(rat(a), rat(b))) }
func (d *desk) mul(a, b api.Ratio) api.Ratio { return d.step(new(big.Rat).Mul(rat(a), rat(b))) }
func (d *desk) div(a, b api.Ratio) api.Ratio { return d.step(new(big.Rat).Quo(rat(a), rat(b))) }

func (d *desk) slope(a, b api.Knot) api.Ratio {
	return d.div(d.sub(b.Out, a.Out), d.sub(b.In, a.In))
}

func (d *desk) from(k api.Knot, slope, t api.Ratio) api.Ratio {
	return d.add(k.Out, d.mul(d.sub(t, k.In), slope))
}

func (d *desk) back(k api.Knot, slope, t api.Ratio) api.Ratio {
	return d.add(k.In, d.div(d.sub(t, k.Out), slope))
}

func above(a, b api.Ratio) bool { return rat(a).Cmp(rat(b)) > 0 }

// checkByWords tells P601's errors that ask for no slope.
func checkByWords(l []api.Knot) api.Errno {
	if len(l) == 0 {
		return api.ErrArg
	}
	if len(l) > 64 {
		return api.ErrMany
	}
	for _, k := range l {
		if !isRight(k.In) || !isRight(k.Out) {
			return api.ErrWide
		}
	}
	for i := 1; i < len(l); i++ {
		if !above(l[i].In, l[i-1].In) {
			return api.ErrOrder
		}
	}
	for i := 1; i < len(l); i++ {
		if !above(l[i].Out, l[i-1].Out) {
			return api.ErrBack
		}
	}
	return api.OK
}

// newByWords tells P601's own knots, or its error.
func newByWords(l []api.Knot) ([]api.Knot, api.Errno) {
	if e := checkByWords(l); e != api.OK {
		return nil, e
	}
	var d desk
	var slopes []api.Ratio
	for i := 0; i+1 < len(l); i++ {
		slopes = append(slopes, d.slope(l[i], l[i+1]))
	}
	if len(l) == 1 {
		slopes = append(slopes, w(1))
	}
	if d.wide {
		return nil, api.ErrWide
	}
	var bends []api.Knot
	for i := 1; i+1 < len(l); i++ {
		if slopes[i-1] != slopes[i] {
			bends = append(bends, l[i])
		}
	}
	var own []api.Knot
	if len(bends) == 0 {
		for _, in := range []api.Ratio{w(0), w(1)} {
			own = append(own, api.Knot{In: in, Out: d.from(l[0], slopes[0], in)})
		}
	} else {
		first, last := bends[0], bends[len(bends)-1]
		ahead, behind := d.sub(first.In, w(1)), d.add(last.In, w(1))
		own = append(own, api.Knot{In: ahead, Out: d.from(first, slopes[0], ahead)})
		own = append(own, bends...)
		own = append(own, api.Knot{In: behind, Out: d.from(last, slopes[len(slopes)-1], behind)})
	}
	if d.wide {
		return nil, api.ErrWide
	}
	for i := 0; i+1 < len(own); i++ {
		d.slope(own[i], own[i+1])
	}
	if d.wide {
		return nil, api.ErrWide
	}
	return own, api.OK
}

// applyByWords tells P602's Apply of a map by its own knots.
func applyByWords(own []api.Knot, t api.Ratio) (api.Ratio, api.Errno) {
	if !isRight(t) {
		return api.Ratio{}, api.ErrWide
	}
	at := 0
	for i, k := range own {
		if !above(k.In, t) {
			at = i
		}
	}
	var d desk
	piece := min(at, len(own)-2)
	x := d.from(own[at], d.slope(own[piece], own[piece+1]), t)
	if d.wide {
		return api.Ratio{}, api.ErrWide
	}
	return x, api.OK
}

// undoByWords tells P602's Undo.
func undoByWords(own []api.Knot, t api.Ratio) (api.Ratio, api.Errno) {
	if !isRight(t) {
		return api.Ratio{}, api.ErrWide
	}
	at := 0
	for i, k := range own {
		if !above(k.Out, t) {
			at = i
		}
	}
	var d desk
	piece := min(at, len(own)-2)
	x := d.back(own[at], d.slope(own[piece], own[piece+1]), t)
	if d.wide {
		return api.Ratio{}, api.ErrWide
	}
	return x, api.OK
}

// pointsByWords tells P603's points; false, if one does not fit.
func pointsByWords(m, next []api.Knot) ([]api.Ratio, bool) {
	var l []api.Ratio
	for _, k := range m[1 : len(m)-1] {
		l = append(l, k.In)
	}
	for _, k := range next[1 : len(next)-1] {
		x, e := undoByWords(m, k.In)
		if e != api.OK {
			return nil, false
		}
		l = append(l, x)
	}
	if len(l) == 0 {
		return []api.Ratio{w(0), w(1)}, true
	}
	slices.SortFunc(l, func(a, b api.Ratio) int { return rat(a).Cmp(rat(b)) })
	l = slices.Compact(l)
	var d desk
	l = append(append([]api.Ratio{d.sub(l[0], w(1))}, l...), d.add(l[len(l)-1], w(1)))
	return l, !d.wide
}

// thenByWords tells the own knots of P603's Then, by those of its two.
func thenByWords(m, next []api.Knot) ([]api.Knot, api.Errno) {
	points, ok := pointsByWords(m, next)
	if !ok {
		return nil, api.ErrWide
	}
	var l []api.Knot
	for _, p := range points {
		x, e := applyByWords(m, p)
		if e == api.OK {
			x, e = applyByWords(next, x)
		}
		if e != api.OK {
			return nil, e
		}
		l = append(l, api.Knot{In: p, Out: x})
	}
	return newByWords(l)
}

// inverseByWords tells those of P603's Inverse.
func inverseByWords(own []api.Knot) ([]api.Knot, api.Errno) {
	var l []api.Knot
	for _, k := range own {
		l = append(l, api.Knot{In: k.Out, Out: k.In})
	}
	return newByWords(l)
}

// maker draws ratios, knots and maps, the same ones in each run.
type maker struct{ dice *rand.Rand }

func newMaker(seed uint64) maker { return maker{rand.New(rand.NewPCG(6, seed))} }

// bottoms are small and great ones, with few and with many divisors, so that sums of two fit or do not.
var bottoms = []int64{1, 1, 1, 2, 3, 4, 24, 25, 1001, 24000, 1 << 20, 1<<20 - 1, 46337, 1<<30 + 3, bottom - 1, bottom}

func (k maker) of(n, d int64) api.Ratio {
	x, ok := fit(big.NewRat(n, d))
	if !ok {
		return w(n % 1000)
	}
	return x
}

// small draws a time near 0 with a small bottom.
func (k maker) small() api.Ratio { return k.of(k.dice.Int64N(41)-20, 1+k.dice.Int64N(4)) }

// any draws a ratio of any size.
func (k maker) any() api.Ratio {
	n := k.dice.Int64N(top+1) >> k.dice.IntN(63)
	if k.dice.IntN(8) == 0 {
		n = top - k.dice.Int64N(3)
	}
	if k.dice.IntN(2) == 0 {
		n = -n
	}
	return k.of(n, bottoms[k.dice.IntN(len(bottoms))])
}

// rising draws so many ratios, rising.
func (k maker) rising(n int, draw func() api.Ratio) []api.Ratio {
	var l []api.Ratio
	for range n {
		l = append(l, draw())
	}
	slices.SortFunc(l, func(a, b api.Ratio) int { return rat(a).Cmp(rat(b)) })
	return slices.Compact(l)
}

// knots draws knots that rise.
func (k maker) knots(n int, draw func() api.Ratio) []api.Knot {
	in, out := k.rising(n, draw), k.rising(n, draw)
	var l []api.Knot
	for i := range min(len(in), len(out)) {
		l = append(l, api.Knot{In: in[i], Out: out[i]})
	}
	return l
}

// straight lays knots between those of a list, that are no bends.
func (k maker) straight(l []api.Knot) []api.Knot {
	var all []api.Knot
	for i, x := range l {
		all = append(all, x)
		if i+1 == len(l) || k.dice.IntN(2) == 0 {
			continue
		}
		share := big.NewRat(1+k.dice.Int64N(3), 4)
		in, isIn := fit(between(x.In, l[i+1].In, share))
		out, isOut := fit(between(x.Out, l[i+1].Out, share))
		if isIn && isOut {
			all = append(all, api.Knot{In: in, Out: out})
		}
	}
	return all
}

func between(a, b api.Ratio, share *big.Rat) *big.Rat {
	x := new(big.Rat).Sub(rat(b), rat(a))
	return x.Add(x.Mul(x, share), rat(a))
}

// maps draws maps that are made, with up to so many knots.
func (k maker) maps(count, most int, draw func() api.Ratio) []*retime.Map {
	var l []*retime.Map
	for len(l) < count {
		m, e := retime.New(k.knots(1+k.dice.IntN(most), draw))
		if e == api.OK {
			l = append(l, m)
		}
	}
	return l
}
