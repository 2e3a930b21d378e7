package sweep

import (
	"iter"
	"slices"

	"surtitle/api"
	"surtitle/ratio"
)

// event is what comes to pass at a mark.
type event interface {
	Before(event) bool
	time() api.Ratio
	// change tells the numbers of the active cues behind it, rising; the list ahead of it is used up.
	change(active []int) []int
}

// mark is when an event comes to pass.
type mark struct{ at api.Ratio }

func (m mark) time() api.Ratio { return m.at }

func (m mark) Before(o event) bool { return ratio.Cmp(m.at, o.time()) < 0 }

// start is the event that a cue begins.
type start struct {
	mark
	cue int
}

func (s start) change(active []int) []int {
	// Cues begin in their order, those at the same time too, as the queue keeps it.
	return append(active, s.cue)
}

// end is the event that a cue ends.
type end struct {
	mark
	cue int
}

func (e end) change(active []int) []int {
	at, _ := slices.BinarySearch(active, e.cue)
	return slices.Delete(active, at, at+1)
}

// events tells what comes to pass in a right document.
func events(cues []api.Cue) *Queue[event] {
	q := NewQueue[event]()
	for i, c := range cues {
		q.Push(start{mark{c.Start}, i})
		q.Push(end{mark{c.End}, i})
	}
	return q
}

// segments goes over the segments of a right document; the list of a segment holds up to the next one alone.
func segments(cues []api.Cue) iter.Seq[api.Seg] {
	return func(yield func(api.Seg) bool) {
		var active []int
		var from api.Ratio
		q := events(cues)
		for q.Len() > 0 {
			e, _ := q.Pop()
			to := e.time()
			if len(active) > 0 && from != to && !yield(api.Seg{From: from, To: to, Cues: active}) {
				return
			}
			active = e.change(active)
			from = to
		}
	}
}
