package retime_test

import (
	"math/rand/v2"
	"slices"
	"testing"

	"surtitle/api"
	"surtitle/ratio"
	"surtitle/retime"
)

// TestThenDoesBoth: P606: Apply of Then is next's Apply of m's, and Undo goes back.
func TestThenDoesBoth(t *testing.T) {
	k, told := newMaker(4), 0
	maps := append(k.maps(25, 5, k.small), k.maps(10, 3, k.any)...)
	for _, m := range maps {
		for _, next := range maps {
			both, e := m.Then(next)
			if e != api.OK {
				continue
			}
			for range 10 {
				x := k.small()
				y, e := m.Apply(x)
				z, f := next.Apply(y)
				got, g := both.Apply(x)
				if e == api.OK && f == api.OK && g == api.OK {
					told++
					if got != z {
						t.Fatalf("%v then %v: %v goes to %v, not to %v", m.Knots(), next.Knots(), x, got, z)
					}
				}
				if back, h := both.Undo(got); g == api.OK && h == api.OK && back != x {
					t.Fatalf("%v then %v: %v comes back as %v", m.Knots(), next.Knots(), x, back)
				}
			}
		}
	}
	if told < 3000 {
		t.Errorf("only %d were told: the maps try too little", told)
	}
}

// TestThereAndBack: P606: Undo of Apply, and Apply of Undo, of a time is the time, and so it is by the inverse; a map and its inverse are the map without change.
func TestThereAndBack(t *testing.T) {
	k, still := newMaker(5), knots(0, 0, 1, 1)
	for _, m := range append(k.maps(100, 6, k.small), k.maps(40, 3, k.any)...) {
		back, e := m.Inverse()
		if e == api.OK {
			for _, pair := range [][2]*retime.Map{{m, back}, {back, m}} {
				if x, e := pair[0].Then(pair[1]); e == api.OK && !slices.Equal(x.Knots(), still) {
					t.Fatalf("%v and its inverse: %v", m.Knots(), x.Knots())
				}
			}
		}
		for range 60 {
			x := k.small()
			if k.dice.IntN(2) == 0 {
				x = k.any()
			}
			y, e := m.Apply(x)
			if z, f := m.Undo(y); e == api.OK && f == api.OK && z != x {
				t.Fatalf("%v: Undo(Apply(%v)): %v", m.Knots(), x, z)
			}
			y, e = m.Undo(x)
			if z, f := m.Apply(y); e == api.OK && f == api.OK && z != x {
				t.Fatalf("%v: Apply(Undo(%v)): %v", m.Knots(), x, z)
			}
			if back == nil {
				continue
			}
			if z, f := back.Apply(x); e == api.OK && f == api.OK && z != y {
				t.Fatalf("%v: Undo(%v): %v; by the inverse %v", m.Knots(), x, y, z)
			}
		}
	}
}

// TestThenOfThree: P606: Then of three knows no brackets.
func TestThenOfThree(t *testing.T) {
	k, told := newMaker(6), 0
	maps := k.maps(16, 4, k.small)
	for _, a := range maps {
		for _, b := range maps {
			ab, e := a.Then(b)
			if e != api.OK {
				continue
			}
			for _, c := range maps {
				left, e := ab.Then(c)
				if e != api.OK {
					continue
				}
				bc, e := b.Then(c)
				if e != api.OK {
					continue
				}
				right, e := a.Then(bc)
				if e != api.OK {
					continue
				}
				told++
				if !slices.Equal(left.Knots(), right.Knots()) {
					t.Fatalf("%v, %v, %v: %v and %v", a.Knots(), b.Knots(), c.Knots(), left.Knots(), right.Knots())
				}
			}
		}
	}
	if told < 2000 {
		t.Errorf("only %d were told: the maps try too little", told)
	}
}

// TestOwnKnotsAreTheMaps: P601: maps that do the same have the same own knots, by whichever knots they were made; own knots make the map again.
func TestOwnKnotsAreTheMaps(t *testing.T) {
	k := newMaker(7)
	for range 500 {
		l := k.knots(1+k.dice.IntN(6), k.small)
		m := made(t, l)
		if again := made(t, m.Knots()); !slices.Equal(again.Knots(), m.Knots()) {
			t.Fatalf("%v: %v, then %v", l, m.Knots(), again.Knots())
		}
		if more := made(t, k.straight(l)); !slices.Equal(more.Knots(), m.Knots()) {
			t.Fatalf("%v: %v; with knots between: %v", l, m.Knots(), more.Knots())
		}
	}
}

// TestRising: P607: of two times the greater one goes to the greater one, both ways.
func TestRising(t *testing.T) {
	k := newMaker(8)
	for _, m := range append(k.maps(60, 6, k.small), k.maps(20, 3, k.any)...) {
		for range 200 {
			a, b := k.small(), k.small()
			if a == b {
				continue
			}
			for _, call := range []func(api.Ratio) (api.Ratio, api.Errno){m.Apply, m.Undo} {
				x, e := call(a)
				y, f := call(b)
				if e == api.OK && f == api.OK && ratio.Cmp(x, y) != ratio.Cmp(a, b) {
					t.Fatalf("%v: %v to %v, %v to %v", m.Knots(), a, x, b, y)
				}
			}
		}
	}
}

// TestListsStay: P2: lists that are handed in are not changed, nor what lies behind them, and not kept.
func TestListsStay(t *testing.T) {
	room := append(knots(0, 0, 10, 10, 20, 40), knots(7, 7, 8, 8)...)
	was := slices.Clone(room)
	m := made(t, room[:3])
	if !slices.Equal(room, was) {
		t.Errorf("%v was %v", room, was)
	}
	clear(room)
	if !slices.Equal(m.Knots(), knots(9, 9, 10, 10, 11, 13)) {
		t.Errorf("own knots: %v", m.Knots())
	}
	times := []api.Ratio{w(1), w(12), w(5), w(6)}
	all, _, _ := m.All(times[:2])
	if !slices.Equal(times, []api.Ratio{w(1), w(12), w(5), w(6)}) {
		t.Errorf("the times became %v", times)
	}
	clear(times)
	if !slices.Equal(all, []api.Ratio{w(1), w(16)}) {
		t.Errorf("the answer became %v", all)
	}
}

// TestAnswersAreNew: P2 and P8: what is done to an answer, its spare room too, is not seen in the map, nor in maps made of it.
func TestAnswersAreNew(t *testing.T) {
	m := made(t, knots(0, 0, 10, 10, 20, 40))
	back, _ := m.Inverse()
	both, _ := m.Then(m)
	for _, x := range []*retime.Map{m, back, both} {
		was := slices.Clone(x.Knots())
		l := x.Knots()
		clear(l[:cap(l)])
		if !slices.Equal(x.Knots(), was) {
			t.Errorf("%v was %v", x.Knots(), was)
		}
		if y, e := x.Undo(was[2].Out); y != was[2].In || e != api.OK {
			t.Errorf("Undo: %v, %v", y, e)
		}
	}
	if !slices.Equal(m.Knots(), knots(9, 9, 10, 10, 11, 13)) {
		t.Errorf("own knots: %v", m.Knots())
	}
}

// TestSameAgain: P3 and P5: the same calls answer the same, whatever was refused between.
func TestSameAgain(t *testing.T) {
	m := made(t, knots(0, 0, 10, 10, 20, 40))
	steep := made(t, knots(0, 0, 1, top))
	for range 3 {
		m.Apply(api.Ratio{})
		m.Undo(w(-top))
		m.All([]api.Ratio{w(1), {}})
		if x, e := steep.Then(m); x != nil || e == api.OK {
			t.Fatal("steep then bent fits")
		}
		if x, e := steep.Inverse(); x != nil || e != api.ErrWide {
			t.Fatal("the inverse of the steep one fits")
		}
		if x, e := m.Apply(w(12)); x != w(16) || e != api.OK || !slices.Equal(m.Knots(), knots(9, 9, 10, 10, 11, 13)) {
			t.Fatalf("%v, %v, %v", x, e, m.Knots())
		}
	}
}

// TestNothingPanics: P1: maps that no call has made, and any numbers at all.
func TestNothingPanics(t *testing.T) {
	var none retime.Map
	bent := made(t, knots(0, 0, 10, 10, 20, 40))
	if x, e := none.Apply(w(7)); x != w(7) || e != api.OK {
		t.Errorf("Apply: %v, %v", x, e)
	}
	if x, e := none.Undo(w(7)); x != w(7) || e != api.OK {
		t.Errorf("Undo: %v, %v", x, e)
	}
	x, e := none.Then(bent)
	hold(t, "none then bent", x, e, bent.Knots(), api.OK)
	x, e = bent.Then(&none)
	hold(t, "bent then none", x, e, bent.Knots(), api.OK)
	x, e = none.Inverse()
	hold(t, "none undone", x, e, knots(0, 0, 1, 1), api.OK)
	if l, at, e := none.All([]api.Ratio{w(7)}); !slices.Equal(l, []api.Ratio{w(7)}) || at != 0 || e != api.OK {
		t.Errorf("All: %v, %d, %v", l, at, e)
	}
	dice := rand.New(rand.NewPCG(6, 9))
	number := func() int64 { return int64(dice.Uint64()) >> dice.IntN(64) }
	any := func() api.Ratio { return r(number(), number()) }
	for range 5000 {
		retime.New(parts(any(), any(), any(), any(), any(), any()))
		retime.Shift(any())
		retime.Scale(any(), any())
		retime.Rates(api.Rate{Num: int(number()), Den: int(number())}, api.Rate{Num: int(number()), Den: int(number())})
		bent.Apply(any())
		bent.Undo(any())
	}
}
