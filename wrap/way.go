package wrap

import (
	"iter"
	"math"
)

const (
	minWidth   = 2 // as many cells as a cluster may have
	cutBadness = 1 << 20
)

// A way of breaking a text is the stops of its lines: some of its places, and its end.

// wayOf tells the way that these breaks are, if they are one.
func wayOf(stops []stop, l []Break) ([]stop, bool) {
	var way []stop
	places := len(stops) - 1
	for _, x := range stops[:places] {
		switch {
		case len(l) > 0 && l[0] == x.place():
			way, l = append(way, x), l[1:]
		case x.kind == hard:
			return nil, false
		}
	}
	return append(way, stops[places]), len(l) == 0
}

// breaksOf tells the places of a way.
func breaksOf(way []stop) []Break {
	var l []Break
	for _, x := range way[:len(way)-1] {
		l = append(l, x.place())
	}
	return l
}

// lines goes over the lines of a way: where each begins, and its stop.
func lines(way []stop) iter.Seq2[spot, stop] {
	return func(yield func(spot, stop) bool) {
		var begin spot
		for _, x := range way {
			if !yield(begin, x) {
				return
			}
			begin = x.next
		}
	}
}

// badness tells that of a way, and whether it fits.
func badness(way []stop, width int) (int64, bool) {
	var sum int64
	for begin, x := range lines(way) {
		n, fits := x.badness(begin, width)
		if !fits {
			return 0, false
		}
		sum += n
	}
	return sum, true
}

// least tells the best of the ways that fit (P1002).
func least(stops []stop, width int) []stop {
	var (
		way   []stop
		begin spot
	)
	for l := range paragraphs(stops) {
		way = append(way, leastOf(begin, l, width)...)
		begin = way[len(way)-1].next
	}
	return way
}

// paragraphs goes over the stops from one that all ways have to the next: what is best within one hangs on no other.
func paragraphs(stops []stop) iter.Seq[[]stop] {
	return func(yield func([]stop) bool) {
		from := 0
		for n, x := range stops {
			if x.kind != hard && x.kind != none {
				continue
			}
			to := n + 1
			if !yield(stops[from:to:to]) {
				return
			}
			from = to
		}
	}
}

// rest is the best way from a place on.
type rest struct {
	badness int64
	stops   int // how many it has
	first   int // which of those behind the place is its first one
}

func (r rest) betterThan(than rest) bool {
	return r.badness < than.badness || r.badness == than.badness && r.stops < than.stops
}

// leastOf tells the stops of the best way of a paragraph that begins at a spot.
func leastOf(begin spot, l []stop, width int) []stop {
	rests := make([]rest, len(l)+1)
	for n := len(l) - 1; n > 0; n-- {
		rests[n] = restFrom(l[n-1].next, l[n:], rests[n+1:], width)
	}
	rests[0] = restFrom(begin, l, rests[1:], width)
	var way []stop
	for n := 0; n < len(l); n++ {
		n += rests[n].first
		way = append(way, l[n])
	}
	return way
}

// restFrom tells the best way from a spot on, with the stops behind it and the best way from each of these on.
func restFrom(begin spot, l []stop, rests []rest, width int) rest {
	best := rest{badness: math.MaxInt64}
	for n, x := range l {
		line, fits := x.badness(begin, width)
		if !fits {
			// Lines that end farther behind have no fewer cells.
			break
		}
		r := rest{badness: line + rests[n].badness, stops: 1 + rests[n].stops, first: n}
		// Of those that are as good the first one stays: its next place is the least.
		if r.betterThan(best) {
			best = r
		}
	}
	return best
}
