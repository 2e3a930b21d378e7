package cue

import (
	"iter"
	"strings"

	"surtitle/api"
	"surtitle/ratio"
)

// twins goes over cues by their numbers, each of them in memory of its own.
func twins(l []api.Cue) iter.Seq2[int, api.Cue] {
	return func(yield func(int, api.Cue) bool) {
		for i, c := range l {
			if !yield(i, twin(c)) {
				return
			}
		}
	}
}

// twin tells the same cue in new memory.
func twin(c api.Cue) api.Cue {
	c.Name = strings.Clone(c.Name)
	c.Text = api.Text{S: strings.Clone(c.Text.S), Spans: append([]api.Span(nil), c.Text.Spans...)}
	return c
}

// Active goes over the cues that are active at a time, Within over those that are active at some time between two.
func Active(d api.Doc, t api.Ratio) iter.Seq2[int, api.Cue] {
	return those(d, func(c api.Cue) bool {
		return ratio.Cmp(c.Start, t) <= 0 && ratio.Cmp(t, c.End) < 0
	}, t)
}

func Within(d api.Doc, from, to api.Ratio) iter.Seq2[int, api.Cue] {
	return those(d, func(c api.Cue) bool {
		return ratio.Cmp(from, to) < 0 && ratio.Cmp(c.Start, to) < 0 && ratio.Cmp(from, c.End) < 0
	}, from, to)
}

// those goes over the cues for which pick holds; over none, if the document, or a time that is asked for, is not right.
func those(d api.Doc, pick func(api.Cue) bool, asked ...api.Ratio) iter.Seq2[int, api.Cue] {
	var (
		numbers []int
		found   []api.Cue
	)
	if CheckDoc(d) == nil && allRight(asked) {
		for i, c := range d.Cues {
			if pick(c) {
				numbers = append(numbers, i)
				found = append(found, twin(c))
			}
		}
	}
	return func(yield func(int, api.Cue) bool) {
		// Whoever ranges may change what is told: it is told in new memory again.
		for i, c := range twins(found) {
			if !yield(numbers[i], c) {
				return
			}
		}
	}
}

func allRight(l []api.Ratio) bool {
	for _, r := range l {
		if !ratio.Right(r) {
			return false
		}
	}
	return true
}
