package retime

import (
	"sort"

	"surtitle/api"
	"surtitle/ratio"
)

func whole(n int64) api.Ratio { return api.Ratio{N: n, D: 1} }

func inOf(k api.Knot) api.Ratio { return k.In }

func outOf(k api.Knot) api.Ratio { return k.Out }

// check tells why knots make no map, whatever their slopes are.
func check(l []api.Knot) api.Errno {
	if len(l) == 0 {
		return api.ErrArg
	}
	if len(l) > api.MaxKnots {
		return api.ErrMany
	}
	for _, k := range l {
		if !ratio.Right(k.In) || !ratio.Right(k.Out) {
			return api.ErrWide
		}
	}
	if !rising(l, inOf) {
		return api.ErrOrder
	}
	if !rising(l, outOf) {
		return api.ErrBack
	}
	return api.OK
}

// rising tells whether one end of each knot is above that of the knot ahead.
func rising(l []api.Knot, end func(api.Knot) api.Ratio) bool {
	for i := 1; i < len(l); i++ {
		if ratio.Cmp(end(l[i]), end(l[i-1])) <= 0 {
			return false
		}
	}
	return true
}

// through makes the map that has these knots, be they bends or not.
func through(l []api.Knot) (*Map, api.Errno) {
	slopes := []api.Ratio{whole(1)}
	for i := 1; i < len(l); i++ {
		s, e := slope(l[i-1], l[i])
		if e != api.OK {
			return nil, e
		}
		slopes = append(slopes, s)
	}
	if len(l) > 1 {
		slopes[0] = slopes[1]
	}
	return &Map{knots: append([]api.Knot(nil), l...), slopes: append(slopes, slopes[len(slopes)-1])}, api.OK
}

// slope tells that of the piece between two knots.
func slope(a, b api.Knot) (api.Ratio, api.Errno) {
	rise, e := ratio.Sub(b.Out, a.Out)
	if e != api.OK {
		return api.Ratio{}, e
	}
	run, e := ratio.Sub(b.In, a.In)
	if e != api.OK {
		return api.Ratio{}, e
	}
	return ratio.Div(rise, run)
}

// made tells the map, or for one that no call has made, the map without change.
func (m *Map) made() *Map {
	if len(m.knots) > 0 {
		return m
	}
	one := whole(1)
	return &Map{knots: []api.Knot{{In: whole(0), Out: whole(0)}, {In: one, Out: one}}, slopes: []api.Ratio{one, one, one}}
}

// bent tells whether the slope changes at a knot.
func (m *Map) bent(i int) bool { return m.slopes[i] != m.slopes[i+1] }

// bends tells the Ins of the knots at which the slope changes.
func (m *Map) bends() []api.Ratio {
	var l []api.Ratio
	for i, k := range m.knots {
		if m.bent(i) {
			l = append(l, k.In)
		}
	}
	return l
}

// pared is the map without the knots that are no bends: what lies outside is then reckoned from the outermost bend. Without bends the first knot stays.
func (m *Map) pared() *Map {
	kept := &Map{slopes: []api.Ratio{m.slopes[0]}}
	for i, k := range m.knots {
		if m.bent(i) {
			kept.knots = append(kept.knots, k)
			kept.slopes = append(kept.slopes, m.slopes[i+1])
		}
	}
	if len(kept.knots) == 0 {
		kept.knots = append(kept.knots, m.knots[0])
		kept.slopes = append(kept.slopes, m.slopes[0])
	}
	return kept
}

// piece tells the knot from which a time is reckoned, the last one whose end is not above it, and with which slope; the first one, if the time is ahead of all.
func (m *Map) piece(t api.Ratio, end func(api.Knot) api.Ratio) (api.Knot, api.Ratio) {
	m = m.made()
	n := sort.Search(len(m.knots), func(i int) bool { return ratio.Cmp(end(m.knots[i]), t) > 0 })
	return m.knots[max(n-1, 0)], m.slopes[n]
}

// reckon tells where a time goes that lies from one end of a knot as far as the answer, but for the slope, lies from its other end.
func reckon(t, from, to, slope api.Ratio, bySlope func(a, b api.Ratio) (api.Ratio, api.Errno)) (api.Ratio, api.Errno) {
	way, e := ratio.Sub(t, from)
	if e != api.OK {
		return api.Ratio{}, e
	}
	way, e = bySlope(way, slope)
	if e != api.OK {
		return api.Ratio{}, e
	}
	return ratio.Add(to, way)
}
