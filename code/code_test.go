package code_test

import (
	"math"
	"math/big"
	"math/rand/v2"
	"testing"

	"surtitle/api"
	"surtitle/code"
)

var (
	noRate = api.Rate{}
	none   = api.Ratio{}
	film   = api.Rate{Num: 24000, Den: 1001}
	pal    = api.Rate{Num: 25, Den: 1}
	tv     = api.Rate{Num: 30000, Den: 1001, Drop: true}
	fast   = api.Rate{Num: 60000, Den: 1001, Drop: true}
)

func r(n, d int64) api.Ratio { return api.Ratio{N: n, D: d} }

func rat(x api.Ratio) *big.Rat { return big.NewRat(x.N, x.D) }

// rates are right ones: the known ones, those on the bounds, and any.
var rates = makeRates()

func makeRates() []api.Rate {
	l := []api.Rate{
		film, pal, tv, fast, {Num: 30000, Den: 1001}, {Num: 60000, Den: 1001}, {Num: 24, Den: 1}, {Num: 30, Den: 1}, {Num: 60, Den: 1},
		{Num: 1, Den: 1}, {Num: 2, Den: 1}, {Num: 240, Den: 1}, {Num: 239, Den: 1}, {Num: 99, Den: 1}, {Num: 100, Den: 1}, {Num: 101, Den: 1},
		{Num: 1001, Den: 1000}, {Num: 1002, Den: 1001}, {Num: 240000, Den: 1001}, {Num: 239999, Den: 1000}, {Num: 479, Den: 2}, {Num: 25, Den: 2},
		{Num: 100099, Den: 1001}, {Num: 100101, Den: 1001}, {Num: 199, Den: 2}, {Num: 201, Den: 2},
	}
	dice := rand.New(rand.NewPCG(5, 1))
	for len(l) < 80 {
		x := api.Rate{Num: 1 + dice.IntN(240000), Den: 1 + dice.IntN(1001)}
		if isRate(x) {
			l = append(l, x)
		}
	}
	return l
}

// wrongRates are none, each for one reason.
var wrongRates = []api.Rate{
	{}, {Num: 25}, {Den: 1}, {Num: -25, Den: -1}, {Num: -25, Den: 1}, {Num: 25, Den: -1},
	{Num: 50, Den: 2}, {Num: 6, Den: 3}, {Num: 48000, Den: 1000}, {Num: 1, Den: 2}, {Num: 1000, Den: 1001}, {Num: 241, Den: 1}, {Num: 481, Den: 2},
	{Num: 240001, Den: 1001}, {Num: 1003, Den: 1002}, {Num: 30000, Den: 1002}, {Num: 240241, Den: 1001}, {Num: 240001, Den: 1000},
	{Num: 25, Den: 1, Drop: true}, {Num: 30, Den: 1, Drop: true}, {Num: 60, Den: 1, Drop: true}, {Num: 24000, Den: 1001, Drop: true}, {Num: 120000, Den: 1001, Drop: true},
	{Num: 30001, Den: 1001, Drop: true}, {Num: 1001, Den: 30000, Drop: true}, {Drop: true},
	{Num: math.MaxInt, Den: math.MaxInt}, {Num: math.MinInt, Den: math.MinInt}, {Num: math.MaxInt, Den: 1}, {Num: 25, Den: math.MinInt}, {Num: math.MinInt, Den: 1},
}

// isRate tells by P501's words.
func isRate(x api.Rate) bool {
	if x.Num < 1 || x.Num > 240000 || x.Den < 1 || x.Den > 1001 {
		return false
	}
	speed := big.NewRat(int64(x.Num), int64(x.Den))
	if speed.Denom().Int64() != int64(x.Den) { // it had a divisor above 1
		return false
	}
	if speed.Cmp(big.NewRat(1, 1)) < 0 || speed.Cmp(big.NewRat(240, 1)) > 0 {
		return false
	}
	return !x.Drop || speed.Cmp(big.NewRat(30000, 1001)) == 0 || speed.Cmp(big.NewRat(60000, 1001)) == 0
}

func wantCheck(t *testing.T, x api.Rate) {
	t.Helper()
	want := api.ErrRate
	if isRate(x) {
		want = api.OK
	}
	if e := code.Check(x); e != want {
		t.Fatalf("Check(%v): %v; want %v", x, e, want)
	}
}

// TestCheck: P501, and example 1.
func TestCheck(t *testing.T) {
	for _, x := range []api.Rate{film, pal, tv, fast, {Num: 240, Den: 1}, {Num: 1, Den: 1}, {Num: 240000, Den: 1001}, {Num: 30000, Den: 1001}} {
		if e := code.Check(x); e != api.OK {
			t.Errorf("Check(%v): %v", x, e)
		}
	}
	for _, x := range wrongRates {
		if e := code.Check(x); e != api.ErrRate {
			t.Errorf("Check(%v): %v", x, e)
		}
	}
	for _, x := range rates {
		wantCheck(t, x)
	}
}

// TestCheckAll: P501: all tops of some bottoms, all bottoms of some tops, by the document's words.
func TestCheckAll(t *testing.T) {
	for _, den := range []int{1, 2, 1000, 1001, 1002} {
		for num := -2; num <= 240300; num++ {
			wantCheck(t, api.Rate{Num: num, Den: den})
		}
	}
	for _, num := range []int{1, 24, 210, 1000, 1001, 24000, 30000, 60000, 120000, 239999, 240000, 240001} {
		for den := -2; den <= 1100; den++ {
			wantCheck(t, api.Rate{Num: num, Den: den})
			wantCheck(t, api.Rate{Num: num, Den: den, Drop: true})
		}
	}
	for num := -2; num <= 300; num++ {
		for den := -2; den <= 300; den++ {
			wantCheck(t, api.Rate{Num: num, Den: den})
		}
	}
}

// TestGrid: P502's Grid, and example 1.
func TestGrid(t *testing.T) {
	if g, e := code.Grid(pal); g != r(1, 25) || e != api.OK {
		t.Errorf("Grid(25): %v, %v", g, e)
	}
	for _, x := range rates {
		if g, e := code.Grid(x); g != r(int64(x.Den), int64(x.Num)) || e != api.OK {
			t.Errorf("Grid(%v): %v, %v", x, g, e)
		}
	}
	for _, x := range wrongRates {
		if g, e := code.Grid(x); g != none || e != api.ErrRate {
			t.Errorf("Grid(%v): %v, %v", x, g, e)
		}
	}
}

// timeOf tells by P502's words.
func timeOf(x api.Rate, frame int64) (api.Ratio, api.Errno) {
	exact := new(big.Rat).Mul(new(big.Rat).SetInt64(frame), big.NewRat(int64(x.Den), int64(x.Num)))
	if frame < 0 || exact.Cmp(big.NewRat(360000, 1)) > 0 {
		return none, api.ErrTime
	}
	return r(exact.Num().Int64(), exact.Denom().Int64()), api.OK
}

// lastOf tells a rate's last frame.
func lastOf(x api.Rate) int64 {
	return 360000 * int64(x.Num) / int64(x.Den)
}

// TestTime: P502's Time, and example 1: frames on both sides of each bound, and any.
func TestTime(t *testing.T) {
	if x, e := code.Time(film, 24); x != r(1001, 1000) || e != api.OK {
		t.Errorf("Time(film, 24): %v, %v", x, e)
	}
	if x, e := code.Time(pal, 9000000); x != r(360000, 1) || e != api.OK {
		t.Errorf("Time(25, 9000000): %v, %v", x, e)
	}
	if x, e := code.Time(pal, 9000001); x != none || e != api.ErrTime {
		t.Errorf("Time(25, 9000001): %v, %v", x, e)
	}
	dice := rand.New(rand.NewPCG(5, 2))
	for _, x := range rates {
		last := lastOf(x)
		l := []int64{0, 1, 2, 24, 25, -1, -25, last - 1, last, last + 1, 2 * last, 1 << 32, 1 << 40, 1 << 62, 1<<62 + 1, math.MaxInt64, math.MinInt64, math.MinInt64 / 25, math.MaxInt64/1001 + 1}
		for range 50 {
			l = append(l, dice.Int64N(last+1), dice.Int64())
		}
		for _, n := range l {
			want, wantE := timeOf(x, n)
			if got, e := code.Time(x, n); got != want || e != wantE {
				t.Fatalf("Time(%v, %d): %v, %v; want %v, %v", x, n, got, e, want, wantE)
			}
		}
	}
	for _, x := range wrongRates {
		for _, n := range []int64{0, 1, -1, math.MaxInt64} {
			if got, e := code.Time(x, n); got != none || e != api.ErrRate {
				t.Errorf("Time(%v, %d): %v, %v", x, n, got, e)
			}
		}
	}
}

// wholeOf tells what a value is made by P503's words, going by single steps from nearby.
func wholeOf(x *big.Rat, how int) int64 {
	k := new(big.Int).Quo(x.Num(), x.Denom()).Int64()
	for new(big.Rat).SetInt64(k).Cmp(x) > 0 {
		k--
	}
	for new(big.Rat).SetInt64(k+1).Cmp(x) <= 0 {
		k++
	}
	below, above := new(big.Rat).Sub(x, new(big.Rat).SetInt64(k)), new(big.Rat).Sub(new(big.Rat).SetInt64(k+1), x)
	switch {
	case how == api.HCeil && below.Sign() > 0, how == api.HNear && above.Cmp(below) <= 0:
		return k + 1
	}
	return k
}

var hows = []int{api.HFloor, api.HNear, api.HCeil}

// wrongTimes are none, with the errors that they have.
var wrongTimes = map[api.Ratio]api.Errno{
	none: api.ErrWide, r(2, 4): api.ErrWide, r(1, -1): api.ErrWide, r(1, 1<<20+1): api.ErrWide, r(-1, 1<<20+1): api.ErrWide, r(math.MinInt64, 1): api.ErrWide, r(1, math.MaxInt64): api.ErrWide,
	r(-1, 25): api.ErrTime, r(-1, 1): api.ErrTime, r(360001, 1): api.ErrTime, r(360000<<20+1, 1<<20): api.ErrTime, r(1<<62, 1): api.ErrTime, r(36000001, 100): api.ErrTime,
}

// times are right ones: on the bounds, on frames and thousandths, halves between them, and any.
func times() []api.Ratio {
	l := []api.Ratio{r(0, 1), r(1, 1<<20), r(1, 1<<20-1), r(360000, 1), r(360000<<20-1, 1<<20), r(359999, 1), r(1, 2), r(1, 50), r(3, 50), r(1001, 48000), r(1001, 60000), r(7, 2), r(1, 480), r(1, 1000), r(1, 100)}
	dice := rand.New(rand.NewPCG(5, 3))
	for range 150 {
		d := 1 + dice.Int64N(1<<20)>>dice.IntN(20)
		x := big.NewRat(dice.Int64N(360000*d+1)>>dice.IntN(20), d)
		l = append(l, r(x.Num().Int64(), x.Denom().Int64()))
	}
	return l
}

// TestFrame: P503, and example 2.
func TestFrame(t *testing.T) {
	for how, want := range map[int]int64{api.HFloor: 0, api.HNear: 1, api.HCeil: 1} {
		if n, e := code.Frame(pal, r(1, 50), how); n != want || e != api.OK {
			t.Errorf("Frame(25, 1/50, %d): %d, %v; want %d", how, n, e, want)
		}
	}
	for _, x := range rates {
		for _, at := range times() {
			exact := new(big.Rat).Mul(rat(at), big.NewRat(int64(x.Num), int64(x.Den)))
			for _, how := range hows {
				want := wholeOf(exact, how)
				if n, e := code.Frame(x, at, how); n != want || e != api.OK {
					t.Fatalf("Frame(%v, %v, %d): %d, %v; want %d", x, at, how, n, e, want)
				}
			}
		}
	}
}

// TestFrameRefuses: P503's errors, and their order.
func TestFrameRefuses(t *testing.T) {
	wrongHows := []int{0, 4, -1, math.MaxInt, math.MinInt}
	for at, want := range wrongTimes {
		for _, how := range append(wrongHows, hows...) {
			if n, e := code.Frame(pal, at, how); n != 0 || e != want {
				t.Errorf("Frame(25, %v, %d): %d, %v; want %v", at, how, n, e, want)
			}
			if n, e := code.Frame(noRate, at, how); n != 0 || e != api.ErrRate {
				t.Errorf("Frame({}, %v, %d): %d, %v", at, how, n, e)
			}
		}
	}
	for _, how := range wrongHows {
		if n, e := code.Frame(pal, r(1, 1), how); n != 0 || e != api.ErrKind {
			t.Errorf("Frame(25, 1, %d): %d, %v", how, n, e)
		}
	}
	for _, x := range wrongRates {
		for _, how := range hows {
			if n, e := code.Frame(x, r(1, 1), how); n != 0 || e != api.ErrRate {
				t.Errorf("Frame(%v, 1, %d): %d, %v", x, how, n, e)
			}
		}
	}
}

// TestFrameOfTime: P509: frames come back, whatever how; a time lies between its frame and the next one; the nearest is one of both.
func TestFrameOfTime(t *testing.T) {
	dice := rand.New(rand.NewPCG(5, 4))
	for _, x := range rates {
		for i := range 200 {
			n := []int64{int64(i), lastOf(x) - int64(i), dice.Int64N(lastOf(x) + 1)}[i%3]
			at, e := code.Time(x, n)
			if e != api.OK {
				t.Fatalf("Time(%v, %d): %v", x, n, e)
			}
			for _, how := range hows {
				if m, e := code.Frame(x, at, how); m != n || e != api.OK {
					t.Fatalf("Frame(%v, %v, %d): %d, %v; want %d", x, at, how, m, e, n)
				}
			}
		}
		grid := big.NewRat(int64(x.Den), int64(x.Num))
		for _, at := range times() {
			low, _ := code.Frame(x, at, api.HFloor)
			near, _ := code.Frame(x, at, api.HNear)
			high, _ := code.Frame(x, at, api.HCeil)
			from := new(big.Rat).Mul(new(big.Rat).SetInt64(low), grid)
			if from.Cmp(rat(at)) > 0 || new(big.Rat).Add(from, grid).Cmp(rat(at)) <= 0 {
				t.Fatalf("%v: %v is not in the frame %d", x, at, low)
			}
			if near != low && near != high {
				t.Fatalf("%v: %v: near %d, between %d and %d", x, at, near, low, high)
			}
		}
	}
}
