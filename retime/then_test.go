package retime_test

import (
	"slices"
	"testing"

	"surtitle/api"
	"surtitle/retime"
)

// squares makes a map that bends at each of so many whole numbers.
func squares(t *testing.T, from, bends int64) *retime.Map {
	t.Helper()
	var l []api.Knot
	for i := range bends + 2 {
		l = append(l, api.Knot{In: w(from - 1 + i), Out: w(i * (i + 1))})
	}
	return made(t, l)
}

// TestThen: P603, with example 3.
func TestThen(t *testing.T) {
	bend, late, double := made(t, knots(0, 0, 10, 10, 20, 40)), made(t, knots(0, 2)), made(t, knots(0, 0, 1, 2))
	half := made(t, parts(w(0), w(0), w(1), r(1, 2)))
	straight := made(t, parts(w(9), w(9), w(10), w(10), w(11), r(31, 3)))
	wideIn := made(t, knots(-top, -5, 1-top, -4, 2-top, -2))
	for _, c := range []struct {
		what    string
		m, next *retime.Map
		own     []api.Knot
		e       api.Errno
	}{
		{"without bends", late, double, knots(0, 4, 1, 6), api.OK},
		{"without bends, turned round", double, late, knots(0, 2, 1, 4), api.OK},
		{"a bend of the first", bend, late, knots(9, 11, 10, 12, 11, 15), api.OK},
		{"a bend of the second", late, bend, knots(7, 9, 8, 10, 9, 13), api.OK},
		{"a bend of the second, undone by a slope", double, bend, parts(w(4), w(8), w(5), w(10), w(6), w(16)), api.OK},
		{"a bend of both at two points", bend, made(t, knots(0, 0, 16, 16, 17, 18)), knots(9, 9, 10, 10, 12, 16, 13, 22), api.OK},
		{"a bend of both at one point", bend, made(t, knots(9, 9, 10, 10, 11, 12)), knots(9, 9, 10, 10, 11, 16), api.OK},
		{"bends that undo each other", bend, straight, knots(0, 0, 1, 1), api.OK},
		{"with itself", bend, bend, knots(9, 9, 10, 10, 11, 19), api.OK},
		{"a bend that can't be undone", made(t, knots(0, top/2)), wideIn, nil, api.ErrWide},
		{"a point ahead of the first out of reach", made(t, knots(0, 1)), wideIn, nil, api.ErrWide},
		{"a point out of reach", made(t, knots(0, 0, 1, bottom)), made(t, knots(0, 0, 1, bottom+1)), nil, api.ErrWide},
		{"a slope too wide", half, made(t, parts(w(0), w(0), w(1), r(1, bottom))), nil, api.ErrWide},
	} {
		m, e := c.m.Then(c.next)
		hold(t, c.what, m, e, c.own, c.e)
		own, e := thenByWords(c.m.Knots(), c.next.Knots())
		if e != c.e || !slices.Equal(own, c.own) {
			t.Errorf("%s: by the words %v, %v", c.what, own, e)
		}
	}
}

// TestThenOfMany: P603: as many points as MaxKnots, and more: New's ErrMany, but behind what does not fit.
func TestThenOfMany(t *testing.T) {
	m := squares(t, 0, 31)
	far, e := retime.Shift(w(5000))
	if e != api.OK {
		t.Fatal(e)
	}
	away, e := m.Then(far)
	if e != api.OK {
		t.Fatal(e)
	}
	for _, c := range []struct {
		bends, points int64
		e             api.Errno
	}{{30, 63, api.OK}, {31, 64, api.OK}, {32, 0, api.ErrMany}, {62, 0, api.ErrMany}} {
		x, e := away.Then(squares(t, 100000, c.bends))
		if e != c.e || x != nil && len(x.Knots()) != int(c.points) {
			t.Errorf("%d bends behind 31: %v", c.bends, e)
		}
	}
	steep := made(t, append(squares(t, 100000, 60).Knots(), api.Knot{In: w(100062), Out: w(top)}))
	if x, e := away.Then(steep); x != nil || e != api.ErrWide {
		t.Errorf("what does not fit at a point of too many: %v", e)
	}
	back, e := squares(t, 0, 62).Inverse()
	if e != api.OK {
		t.Fatal(e)
	}
	x, e := squares(t, 0, 62).Then(back)
	hold(t, "62 bends at the same points", x, e, knots(0, 0, 1, 1), api.OK)
}

// TestInverse: P603's Inverse, with example 4.
func TestInverse(t *testing.T) {
	for _, c := range []struct {
		l, own []api.Knot
		e      api.Errno
	}{
		{knots(0, 0, 10, 10, 20, 40), parts(w(9), w(9), w(10), w(10), w(11), r(31, 3)), api.OK},
		{knots(0, 10), knots(0, -10, 1, -9), api.OK},
		{knots(0, 0, 1, 3), parts(w(0), w(0), w(1), r(1, 3)), api.OK},
		{parts(w(0), w(0), w(1), r(1, bottom)), knots(0, 0, 1, bottom), api.OK},
		{knots(0, 0, 1, bottom+1), nil, api.ErrWide},
		{knots(0, 1-top), knots(0, top-1, 1, top), api.OK},
		{knots(0, -top), nil, api.ErrWide},
	} {
		m, e := made(t, c.l).Inverse()
		hold(t, "Inverse", m, e, c.own, c.e)
	}
}

// TestThenOfAny: P603 against the words, of maps near 0 and of any width.
func TestThenOfAny(t *testing.T) {
	k, told, refused := newMaker(3), 0, 0
	maps := append(k.maps(60, 6, k.small), k.maps(60, 4, k.any)...)
	for _, m := range maps {
		back, backErr := inverseByWords(m.Knots())
		x, e := m.Inverse()
		hold(t, "Inverse", x, e, back, backErr)
		for _, next := range maps {
			own, want := thenByWords(m.Knots(), next.Knots())
			x, e := m.Then(next)
			hold(t, "Then", x, e, own, want)
			if e == api.OK {
				told++
			} else {
				refused++
			}
		}
	}
	if told < 2000 || refused < 2000 {
		t.Errorf("told %d, refused %d: the maps try too little", told, refused)
	}
}
