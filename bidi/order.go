package bidi

import (
	"iter"
	"slices"
)

// maxLevel bounds how often Order turns stretches round, whatever it is handed.
const maxLevel = 255

// Order tells the visual order of levels: the place of each in turn, from the left.
func Order(levels []int) []int {
	order := make([]int, len(levels))
	greatest := 0
	for place, level := range levels {
		order[place] = place
		greatest = max(greatest, min(level, maxLevel))
	}
	for level := greatest; level > 0; level-- {
		above := func(place int) bool { return levels[place] >= level }
		for from, to := range stretches(order, above) {
			slices.Reverse(order[from:to])
		}
	}
	return order
}

// stretches goes over the longest stretches of a list of which all are so: from a place on, ahead of another. What stands in one may be changed when it is told.
func stretches(l []int, so func(int) bool) iter.Seq2[int, int] {
	return func(yield func(int, int) bool) {
		for from := 0; from < len(l); from++ {
			to := from
			for to < len(l) && so(l[to]) {
				to++
			}
			if from < to && !yield(from, to) {
				return
			}
			// What ended the stretch is in none.
			from = to
		}
	}
}
