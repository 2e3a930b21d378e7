package retime_test

import (
	"math"
	"slices"
	"testing"

	"surtitle/api"
	"surtitle/code"
	"surtitle/retime"
)

// knots makes some of whole numbers, In and Out by turns.
func knots(l ...int64) []api.Knot {
	var k []api.Knot
	for i := 0; i+1 < len(l); i += 2 {
		k = append(k, api.Knot{In: w(l[i]), Out: w(l[i+1])})
	}
	return k
}

// parts makes some of ratios.
func parts(l ...api.Ratio) []api.Knot {
	var k []api.Knot
	for i := 0; i+1 < len(l); i += 2 {
		k = append(k, api.Knot{In: l[i], Out: l[i+1]})
	}
	return k
}

func made(t *testing.T, l []api.Knot) *retime.Map {
	t.Helper()
	m, e := retime.New(l)
	if e != api.OK {
		t.Fatalf("New(%v): %v", l, e)
	}
	return m
}

// hold fails, if a map that was asked for has not these own knots, or not that error.
func hold(t *testing.T, what string, m *retime.Map, e api.Errno, own []api.Knot, want api.Errno) {
	t.Helper()
	if e != want || (m == nil) != (want != api.OK) {
		t.Fatalf("%s: %v, %v; want %v", what, m, e, want)
	}
	if m != nil && !slices.Equal(m.Knots(), own) {
		t.Fatalf("%s: own knots %v; want %v", what, m.Knots(), own)
	}
}

// TestNew: P601, with examples 1 and 2, and its errors in their order.
func TestNew(t *testing.T) {
	p, q := int64(1<<30+3), int64(bottom-1)
	for _, c := range []struct {
		what   string
		l, own []api.Knot
		e      api.Errno
	}{
		{"one knot", knots(0, 10), knots(0, 10, 1, 11), api.OK},
		{"one knot elsewhere", knots(7, 3), knots(0, -4, 1, -3), api.OK},
		{"no bend", knots(5, 5, 7, 9), knots(0, -5, 1, -3), api.OK},
		{"no bend in many", knots(-3, -1, 0, 0, 3, 1, 9, 3), parts(w(0), w(0), w(1), r(1, 3)), api.OK},
		{"a bend", knots(0, 0, 10, 10, 20, 40), knots(9, 9, 10, 10, 11, 13), api.OK},
		{"a bend among others", knots(0, 0, 1, 1, 2, 2, 10, 10, 20, 40, 21, 43), knots(9, 9, 10, 10, 11, 13), api.OK},
		{"a bend by a half", parts(w(0), w(0), r(1, 2), w(1), w(1), r(5, 4)), parts(r(-1, 2), w(-1), r(1, 2), w(1), r(3, 2), r(3, 2)), api.OK},
		{"two bends", knots(0, 0, 2, 4, 4, 5, 6, 9), parts(w(1), w(2), w(2), w(4), w(4), w(5), w(5), w(7)), api.OK},
		{"two bends and a knot between", knots(0, 0, 2, 4, 4, 6, 8, 10, 10, 20), knots(1, 2, 2, 4, 8, 10, 9, 15), api.OK},
		{"the outer slopes alike", knots(0, 0, 1, 1, 2, 3, 3, 4), knots(0, 0, 1, 1, 2, 3, 3, 4), api.OK},

		{"none", nil, nil, api.ErrArg},
		{"an empty list", []api.Knot{}, nil, api.ErrArg},
		{"too many, all wrong", make([]api.Knot, 65), nil, api.ErrMany},
		{"as many as may be, all wrong", make([]api.Knot, 64), nil, api.ErrWide},
		{"a wrong In", parts(r(2, 4), w(0)), nil, api.ErrWide},
		{"a wrong Out", parts(w(0), r(0, 2)), nil, api.ErrWide},
		{"a wrong Out behind what is out of order", parts(w(1), w(1), w(0), w(0), w(5), api.Ratio{}), nil, api.ErrWide},
		{"the same In", knots(0, 0, 0, 1), nil, api.ErrOrder},
		{"a lower In", knots(1, 0, 0, 1), nil, api.ErrOrder},
		{"In and Out fall", knots(1, 1, 0, 0), nil, api.ErrOrder},
		{"Out falls ahead of In", knots(0, 1, 1, 1, 1, 2), nil, api.ErrOrder},
		{"the last In falls", knots(0, 0, 1, 1, 1, 2), nil, api.ErrOrder},
		{"the same Out", knots(0, 1, 1, 1), nil, api.ErrBack},
		{"a lower Out", knots(0, 1, 1, 0), nil, api.ErrBack},
		{"the last Out falls", knots(0, 0, 1, 1, 2, 0), nil, api.ErrBack},
		{"Out falls, and a slope is too wide", knots(0, 0, top, 1, top-1+1, 1), nil, api.ErrOrder},

		{"a slope's rise too wide", knots(0, -top, 1, 1), nil, api.ErrWide},
		{"a slope's run too wide", knots(-top, 0, 1, 1), nil, api.ErrWide},
		{"a slope too wide", knots(0, 0, bottom+1, 1), nil, api.ErrWide},
		{"a slope just fits", knots(0, 0, bottom, 1), parts(w(0), w(0), w(1), r(1, bottom)), api.OK},
		{"In 0 out of reach", knots(top, -1), nil, api.ErrWide},
		{"In 0 just in reach", knots(top, 0), knots(0, -top, 1, 1-top), api.OK},
		{"In 1 out of reach by its way", knots(-top, -top), nil, api.ErrWide},
		{"In 1 just in reach", knots(1-top, 1-top), knots(0, 0, 1, 1), api.OK},
		{"In 1 out of reach by its Out", knots(0, top), nil, api.ErrWide},
		{"In 0 by a bottom too wide", parts(r(1, p), r(1, q)), nil, api.ErrWide},
		{"a first bend 1 behind the least In", knots(-top, -5, 1-top, -4, 2-top, -2), knots(-top, -5, 1-top, -4, 2-top, -2), api.OK},
		{"a first bend less 1 out of reach", parts(r(-top, 3), w(0), r(2-top, 3), w(2), r(5-top, 3), w(3)), nil, api.ErrWide},
		{"a last bend and 1 out of reach", parts(r(top-5, 3), w(0), r(top-2, 3), w(2), r(top, 3), w(3)), nil, api.ErrWide},
		{"ahead of the first bend too wide", parts(w(-q), r(1-p, p), w(0), r(1, p), w(1), w(1)), nil, api.ErrWide},
		{"behind the last bend too wide", parts(w(-1), w(-1), w(0), r(1, p), w(q), r(1+p, p)), nil, api.ErrWide},
		{"from a bend to the next too wide", parts(w(-1), w(-1), r(1, p), r(1, p), w(1), w(1), r(2*q+1, q), r(2*q+1, q), w(3), w(5)), nil, api.ErrWide},
		{"from a bend to the next by whole ones", parts(w(-1), w(-1), w(0), r(1, 2), w(1), r(3, 2), w(2), r(5, 2), w(3), w(5)), parts(w(-1), w(-1), w(0), r(1, 2), w(2), r(5, 2), w(3), w(5)), api.OK},
	} {
		m, e := retime.New(c.l)
		hold(t, c.what, m, e, c.own, c.e)
		own, e := newByWords(c.l)
		if e != c.e || !slices.Equal(own, c.own) {
			t.Errorf("%s: by the words %v, %v", c.what, own, e)
		}
	}
}

// TestNewOfMany: P601: 64 knots, all of them bends but for the outer ones; one more is refused.
func TestNewOfMany(t *testing.T) {
	var l []api.Knot
	for i := range int64(65) {
		l = append(l, api.Knot{In: w(i), Out: w(i * i)})
	}
	m := made(t, l[:64])
	if got := m.Knots(); !slices.Equal(got, l[:64]) {
		t.Errorf("own knots: %v", got)
	}
	if m, e := retime.New(l); m != nil || e != api.ErrMany {
		t.Errorf("of 65: %v, %v", m, e)
	}
}

// TestNewOfAllFew: P601: all lists of one and two knots of some ratios, right and wrong ones, and all of three of a few, against the words.
func TestNewOfAllFew(t *testing.T) {
	try := func(l []api.Knot) {
		own, want := newByWords(l)
		m, e := retime.New(l)
		hold(t, "New", m, e, own, want)
	}
	pool := []api.Ratio{{}, r(2, 4), w(-top), w(1 - top), w(-1), w(0), r(1, bottom), r(1, 3), w(1), w(2), r(top-1, 3), w(top - 1), w(top), w(math.MinInt64)}
	for _, a := range pool {
		for _, b := range pool {
			try(parts(a, b))
			for _, c := range pool {
				for _, d := range pool {
					try(parts(a, b, c, d))
				}
			}
		}
	}
	few := []api.Ratio{w(-1), w(0), r(1, 2), w(1), w(3)}
	for i := range 5 * 5 * 5 * 5 * 5 * 5 {
		var l []api.Ratio
		for range 6 {
			l = append(l, few[i%5])
			i /= 5
		}
		try(parts(l...))
	}
}

// TestNewOfAny: P601 against the words: lists of all lengths, near 0 and of any width, with knots laid between that are no bends.
func TestNewOfAny(t *testing.T) {
	k, told, refused := newMaker(1), 0, 0
	for i := range 20000 {
		draw := k.small
		if i%2 == 0 {
			draw = k.any
		}
		l := k.knots(1+k.dice.IntN(6), draw)
		if i%16 == 1 {
			l = k.knots(40, func() api.Ratio { return w(k.dice.Int64N(300)) })
		}
		l = k.straight(l)
		own, want := newByWords(l)
		m, e := retime.New(l)
		hold(t, "New", m, e, own, want)
		if e == api.OK {
			told++
		} else {
			refused++
		}
	}
	if told < 2000 || refused < 2000 {
		t.Errorf("told %d, refused %d: the lists try too little", told, refused)
	}
}

// TestApply: P602, with example 1: each side of each knot, and the knot from which a time is reckoned, seen by what does not fit.
func TestApply(t *testing.T) {
	m := made(t, knots(0, 0, 10, 10, 20, 40))
	for _, c := range []struct{ in, out api.Ratio }{
		{w(5), w(5)}, {w(8), w(8)}, {w(9), w(9)}, {r(19, 2), r(19, 2)}, {w(10), w(10)}, {r(21, 2), r(23, 2)}, {w(11), w(13)}, {w(12), w(16)}, {w(-3), w(-3)}, {w(30), w(70)}, {r(31, 3), w(11)},
	} {
		if x, e := m.Apply(c.in); x != c.out || e != api.OK {
			t.Errorf("Apply(%v): %v, %v", c.in, x, e)
		}
		if x, e := m.Undo(c.out); x != c.in || e != api.OK {
			t.Errorf("Undo(%v): %v, %v", c.out, x, e)
		}
	}
	still, late := made(t, knots(0, 0)), made(t, knots(0, 5))
	for _, c := range []struct {
		m        *retime.Map
		t, there api.Ratio
		e        api.Errno
		back     api.Ratio
		backErr  api.Errno
		what     string
	}{
		{still, w(top), w(top), api.OK, w(top), api.OK, "the greatest"},
		{still, w(-top), w(-top), api.OK, w(-top), api.OK, "the least"},
		{late, w(top - 5), w(top), api.OK, w(top - 10), api.OK, "just in reach"},
		{late, w(top - 4), api.Ratio{}, api.ErrWide, w(top - 9), api.OK, "out of reach"},
		{late, w(-top), w(5 - top), api.OK, api.Ratio{}, api.ErrWide, "out of reach backwards"},
		{m, w(9 - top), w(9 - top), api.OK, w(9 - top), api.OK, "a way that fits from the first knot"},
		{m, w(8 - top), api.Ratio{}, api.ErrWide, api.Ratio{}, api.ErrWide, "a way that does not fit from the first knot"},
		{m, w(top), api.Ratio{}, api.ErrWide, w((top + 20) / 3), api.OK, "three times as far"},
	} {
		if x, e := c.m.Apply(c.t); x != c.there || e != c.e {
			t.Errorf("%s: Apply(%v): %v, %v; want %v, %v", c.what, c.t, x, e, c.there, c.e)
		}
		if x, e := c.m.Undo(c.t); x != c.back || e != c.backErr {
			t.Errorf("%s: Undo(%v): %v, %v; want %v, %v", c.what, c.t, x, e, c.back, c.backErr)
		}
	}
}

// TestApplyOfWrong: P602: what is not right is ErrWide, both ways.
func TestApplyOfWrong(t *testing.T) {
	m := made(t, knots(0, 0, 10, 10, 20, 40))
	for _, x := range []api.Ratio{{}, r(2, 4), r(1, 0), r(1, -1), r(0, 2), r(5, bottom+1), w(top + 1), w(math.MinInt64), r(math.MinInt64, math.MinInt64), r(3, math.MinInt64)} {
		if y, e := m.Apply(x); y != (api.Ratio{}) || e != api.ErrWide {
			t.Errorf("Apply(%v): %v, %v", x, y, e)
		}
		if y, e := m.Undo(x); y != (api.Ratio{}) || e != api.ErrWide {
			t.Errorf("Undo(%v): %v, %v", x, y, e)
		}
	}
}

// TestApplyOfAny: P602 against the words, on knots, beside them and far from them.
func TestApplyOfAny(t *testing.T) {
	k, told, refused := newMaker(2), 0, 0
	maps := append(k.maps(60, 7, k.small), k.maps(60, 4, k.any)...)
	maps = append(maps, k.maps(3, 64, func() api.Ratio { return w(k.dice.Int64N(1000)) })...)
	for _, m := range maps {
		own := m.Knots()
		times := []api.Ratio{w(0), w(1), w(top), w(-top), r(1, bottom), r(-1, bottom)}
		for _, x := range own {
			times = append(times, x.In, x.Out)
		}
		for range 60 {
			times = append(times, k.small(), k.any())
		}
		for _, x := range times {
			want, wantErr := applyByWords(own, x)
			if y, e := m.Apply(x); y != want || e != wantErr {
				t.Fatalf("%v: Apply(%v): %v, %v; want %v, %v", own, x, y, e, want, wantErr)
			}
			back, backErr := undoByWords(own, x)
			if y, e := m.Undo(x); y != back || e != backErr {
				t.Fatalf("%v: Undo(%v): %v, %v; want %v, %v", own, x, y, e, back, backErr)
			}
			if wantErr == api.OK {
				told++
			} else {
				refused++
			}
		}
	}
	if told < 2000 || refused < 2000 {
		t.Errorf("told %d, refused %d: the times try too little", told, refused)
	}
}

// TestShift: P604's Shift.
func TestShift(t *testing.T) {
	for _, c := range []struct {
		by  api.Ratio
		own []api.Knot
		e   api.Errno
	}{
		{w(2), knots(0, 2, 1, 3), api.OK},
		{w(0), knots(0, 0, 1, 1), api.OK},
		{r(-7, 2), parts(w(0), r(-7, 2), w(1), r(-5, 2)), api.OK},
		{w(-top), knots(0, -top, 1, 1-top), api.OK},
		{w(top - 1), knots(0, top-1, 1, top), api.OK},
		{w(top), nil, api.ErrWide},
		{r(2, 4), nil, api.ErrWide},
		{api.Ratio{}, nil, api.ErrWide},
	} {
		m, e := retime.Shift(c.by)
		hold(t, "Shift", m, e, c.own, c.e)
	}
}

// TestScale: P604's Scale, its errors in their order.
func TestScale(t *testing.T) {
	p, q := int64(1<<30+3), int64(bottom-1)
	for _, c := range []struct {
		by, about api.Ratio
		own       []api.Knot
		e         api.Errno
	}{
		{w(3), w(0), knots(0, 0, 1, 3), api.OK},
		{w(3), w(5), knots(0, -10, 1, -7), api.OK},
		{r(1, 2), w(-4), parts(w(0), w(-2), w(1), r(-3, 2)), api.OK},
		{w(1), r(1, 3), knots(0, 0, 1, 1), api.OK},
		{r(1, bottom), w(0), parts(w(0), w(0), w(1), r(1, bottom)), api.OK},
		{w(top), w(0), knots(0, 0, 1, top), api.OK},
		{w(0), w(1), nil, api.ErrBack},
		{w(0), w(top), nil, api.ErrBack},
		{w(-1), w(1), nil, api.ErrBack},
		{r(-1, bottom), w(top), nil, api.ErrBack},
		{r(2, 4), w(1), nil, api.ErrWide},
		{w(1), r(2, 4), nil, api.ErrWide},
		{w(0), r(2, 4), nil, api.ErrWide},
		{w(-1), api.Ratio{}, nil, api.ErrWide},
		{r(-2, 4), w(1), nil, api.ErrWide},
		{w(1), w(top), nil, api.ErrWide},
		{w(2), w(top - 1), nil, api.ErrWide},
		{w(1), w(top - 1), knots(0, 0, 1, 1), api.OK},
		{r(1, p), r(1, q), nil, api.ErrWide},
		{w(2), w(-top), nil, api.ErrWide},
	} {
		m, e := retime.Scale(c.by, c.about)
		hold(t, "Scale", m, e, c.own, c.e)
	}
}

// TestRates: P604's Rates, with example 3: a time goes to the time of the same frame at the other rate.
func TestRates(t *testing.T) {
	film, pal, tv := api.Rate{Num: 24000, Den: 1001}, api.Rate{Num: 25, Den: 1}, api.Rate{Num: 30000, Den: 1001, Drop: true}
	for _, c := range []struct {
		from, to api.Rate
		out      api.Ratio
		e        api.Errno
	}{
		{pal, film, r(1001, 960), api.OK},
		{film, pal, r(960, 1001), api.OK},
		{pal, pal, w(1), api.OK},
		{film, tv, r(4, 5), api.OK},
		{tv, api.Rate{Num: 30000, Den: 1001}, w(1), api.OK},
		{api.Rate{Num: 240, Den: 1}, api.Rate{Num: 1, Den: 1}, w(240), api.OK},
		{api.Rate{Num: 239999, Den: 1000}, api.Rate{Num: 1001, Den: 997}, r(239999*997, 1001000), api.OK},
		{api.Rate{}, pal, w(0), api.ErrRate},
		{pal, api.Rate{}, w(0), api.ErrRate},
		{pal, api.Rate{Num: 50, Den: 2}, w(0), api.ErrRate},
		{api.Rate{Num: 25, Den: 1, Drop: true}, pal, w(0), api.ErrRate},
		{api.Rate{Num: math.MinInt, Den: -1}, api.Rate{Num: 1, Den: 0}, w(0), api.ErrRate},
	} {
		m, e := retime.Rates(c.from, c.to)
		hold(t, "Rates", m, e, parts(w(0), w(0), w(1), c.out), c.e)
		if e != api.OK {
			continue
		}
		before, _ := code.Time(c.from, 720)
		after, _ := code.Time(c.to, 720)
		if x, e := m.Apply(before); x != after || e != api.OK {
			t.Errorf("frame 720 from %v to %v: %v, %v; want %v", c.from, c.to, x, e, after)
		}
	}
}

// TestAll: P605: all, or the place of the first error.
func TestAll(t *testing.T) {
	m := made(t, knots(0, 0, 10, 10, 20, 40))
	for _, c := range []struct {
		l, want []api.Ratio
		at      int
		e       api.Errno
	}{
		{nil, nil, 0, api.OK},
		{[]api.Ratio{}, nil, 0, api.OK},
		{[]api.Ratio{w(12), w(1), w(12)}, []api.Ratio{w(16), w(1), w(16)}, 0, api.OK},
		{[]api.Ratio{{}, w(1)}, nil, 0, api.ErrWide},
		{[]api.Ratio{w(1), {}, w(2)}, nil, 1, api.ErrWide},
		{[]api.Ratio{w(1), w(2), w(top)}, nil, 2, api.ErrWide},
		{[]api.Ratio{w(1), r(2, 4), w(top), {}}, nil, 1, api.ErrWide},
	} {
		if l, at, e := m.All(c.l); !slices.Equal(l, c.want) || at != c.at || e != c.e {
			t.Errorf("All(%v): %v, %d, %v", c.l, l, at, e)
		}
	}
}
