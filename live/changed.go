package live

import (
	"slices"

	"surtitle/api"
)

// changed tells the numbers of those cues that are not what the cue of that number was, or had none there.
func changed(was, now []api.Cue) []int {
	var numbers []int
	for i, c := range now {
		if i >= len(was) || !same(was[i], c) {
			numbers = append(numbers, i)
		}
	}
	return numbers
}

// same tells whether two cues are the same, their spans in their order too.
func same(a, b api.Cue) bool {
	return a.Start == b.Start && a.End == b.End && a.Lane == b.Lane && a.Side == b.Side && a.Name == b.Name &&
		a.Text.S == b.Text.S && slices.Equal(a.Text.Spans, b.Text.Spans)
}
