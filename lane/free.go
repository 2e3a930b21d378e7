package lane

import (
	"surtitle/api"
	"surtitle/ratio"
)

// firstFree tells where in a list the first so many stand, one behind the other, that are free; false, if they do so nowhere.
func firstFree[T any](l []T, many int, free func(T) bool) (int, bool) {
	met := 0
	for n, x := range l {
		if !free(x) {
			met = 0
			continue
		}
		met++
		if met == many {
			return n + 1 - many, true
		}
	}
	return 0, false
}

// ends are the times at which the last cues of lanes, or of rows, end: up to then these are taken.
// The last one is enough, as each gets in only behind the End of the one that it follows.
type ends []api.Ratio

// lane gives a cue the least lane that is free when it begins.
func (l *ends) lane(c api.Cue) int {
	n, ok := firstFree(*l, 1, func(end api.Ratio) bool { return isOver(end, c) })
	if !ok {
		*l = append(*l, c.End)
		return len(*l) - 1
	}
	(*l)[n] = c.End
	return n
}

// isOver tells whether what ends then has ended when a cue begins. Of cues in their order this is all: one ahead that is active later on is active then, too.
func isOver(end api.Ratio, c api.Cue) bool { return ratio.Cmp(end, c.Start) <= 0 }
