package speed

import (
	"cmp"
	"slices"

	"surtitle/api"
	"surtitle/cue"
	"surtitle/ratio"
)

// each tells what a measure tells of each cue; at the first that it refuses, that.
func each(l []api.Cue, measure func(api.Cue) (api.Ratio, api.Errno)) ([]api.Ratio, error) {
	told := make([]api.Ratio, 0, len(l))
	for i, c := range l {
		x, e := measure(c)
		if e != api.OK {
			return nil, &cue.Wrong{Cue: i, Err: e}
		}
		told = append(told, x)
	}
	return told, nil
}

// pace measures right texts and cues by right rules.
type pace struct{ rules Rules }

// wants tells how long a text must be seen.
func (p pace) wants(t api.Text) (api.Ratio, api.Errno) {
	read, e := ratio.Div(api.Ratio{N: int64(Count(t)), D: 1}, p.rules.Signs)
	if e = cmp.Or(e, ratio.Time(read)); e != api.OK {
		return api.Ratio{}, e
	}
	longer, _ := ratio.Most(p.rules.Least, read)
	return longer, api.OK
}

// lacks tells how much longer a cue would have to be seen; 0, if it is seen long enough.
func (p pace) lacks(c api.Cue) (api.Ratio, api.Errno) {
	wants, e := p.wants(c.Text)
	if e != api.OK {
		return api.Ratio{}, e
	}
	seen, e := ratio.Sub(c.End, c.Start)
	if e != api.OK {
		return api.Ratio{}, e
	}
	if ratio.Cmp(seen, wants) >= 0 { // what it has too much need not be a ratio
		return api.Ratio{N: 0, D: 1}, api.OK
	}
	return ratio.Sub(wants, seen)
}

// room lets cues stay by a pace, among the cues of a right document.
type room struct {
	pace pace
	cues []api.Cue
}

// end tells where one of the cues ends that is let stay.
func (r room) end(c api.Cue) (api.Ratio, api.Errno) {
	wants, e := r.pace.wants(c.Text)
	if e != api.OK {
		return api.Ratio{}, e
	}
	enough, e := onGrid(ratio.Add(c.Start, wants))
	if e != api.OK {
		return api.Ratio{}, e
	}
	if ratio.Cmp(c.End, enough) >= 0 {
		return c.End, api.OK
	}
	limit, e := onGrid(r.limit(c))
	if e != api.OK {
		return api.Ratio{}, e
	}
	stay, _ := ratio.Least(enough, limit)
	later, _ := ratio.Most(c.End, stay)
	return later, api.OK
}

// limit tells how long one of the cues may stay: up to a gap ahead of the next one.
func (r room) limit(c api.Cue) (api.Ratio, api.Errno) {
	from, _ := slices.BinarySearchFunc(r.cues, c.End, func(x api.Cue, t api.Ratio) int {
		return ratio.Cmp(x.Start, t)
	})
	for _, next := range r.cues[from:] {
		if next.Lane == c.Lane && next.Side == c.Side {
			return ratio.Sub(next.Start, r.pace.rules.Gap)
		}
	}
	return api.Ratio{N: api.MaxTime, D: 1}, api.OK
}

// onGrid refuses what can be no time's D; that it lies outside of all times is no fault here.
func onGrid(t api.Ratio, e api.Errno) (api.Ratio, api.Errno) {
	if e == api.OK && t.D > api.MaxGrid {
		e = api.ErrWide
	}
	return t, e
}
