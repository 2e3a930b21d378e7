package edit

import (
	"slices"

	"surtitle/api"
	"surtitle/cue"
	"surtitle/ratio"
)

// step changes a list of cues, in its own memory, and knows its way back.
type step interface {
	on(l list) list
	back() step
	edits() []api.Edit
}

// change is what an edit does: steps, one behind the other.
type change []step

func (c change) on(l list) list {
	for _, s := range c {
		l = s.on(l)
	}
	return l
}

func (c change) back() change {
	var b change
	for _, s := range slices.Backward(c) {
		b = append(b, s.back())
	}
	return b
}

// edits tells edits that do the same.
func (c change) edits() []api.Edit {
	var l []api.Edit
	for _, s := range c {
		l = append(l, s.edits()...)
	}
	return l
}

// swap lays cues, from a place on, where others were.
type swap struct {
	at       int
	was, now []api.Cue
}

func (s swap) on(l list) list { return slices.Replace(l, s.at, s.at+len(s.was), s.now...) }

func (s swap) back() step { return swap{at: s.at, was: s.now, now: s.was} }

func (s swap) edits() []api.Edit {
	var l []api.Edit
	for range s.was {
		l = append(l, api.Edit{Op: api.ETake, Cue: s.at})
	}
	for i, c := range cue.Twin(api.Doc{Cues: s.now}).Cues {
		l = append(l, api.Edit{Op: api.ELay, Cue: s.at + i, New: c})
	}
	return l
}

// slide moves the times of the cues from one place on, ahead of another one.
// It is kept as that, and not as a swap: it may be one of all cues.
type slide struct {
	from, to int
	by       api.Ratio
}

func (s slide) on(l list) list {
	for i := range l[s.from:s.to] {
		c := &l[s.from+i]
		// Sums that do not fit were refused ahead of this.
		c.Start, _ = ratio.Add(c.Start, s.by)
		c.End, _ = ratio.Add(c.End, s.by)
	}
	return l
}

func (s slide) back() step {
	s.by, _ = ratio.Neg(s.by)
	return s
}

func (s slide) edits() []api.Edit {
	return []api.Edit{{Op: api.EShift, Cue: s.from, To: s.to, Start: s.by}}
}
