package cue

import (
	"cmp"
	"slices"

	"surtitle/api"
	"surtitle/mark"
	"surtitle/ratio"
	"surtitle/style"
)

// Keep tells what a format can say of a document, and what not.
func Keep(d api.Doc, can api.Can) (api.Doc, []api.Loss, error) {
	if err := CheckDoc(d); err != nil {
		return api.Doc{}, nil, err
	}
	if e := checkCan(can); e != api.OK {
		return api.Doc{}, nil, &Wrong{0, e}
	}
	k := keeper{can: can}
	kept, err := remade(d, k.keep)
	if err != nil {
		return api.Doc{}, nil, err
	}
	slices.SortStableFunc(kept.Cues, Compare)
	return kept, k.lost, nil
}

// checkCan tells whether there may be a format that can say this.
func checkCan(can api.Can) api.Errno {
	if _, _, e := mark.Name(can.Dialect, ""); e != api.OK {
		return e
	}
	g := can.Grid
	if !ratio.Right(g) || g.N <= 0 || g.N > g.D || g.D > api.MaxGrid {
		return api.ErrArg
	}
	return api.OK
}

// keeper makes cues what a format can say, and gathers what is lost.
type keeper struct {
	can  api.Can
	lost []api.Loss
}

// keep makes a cue what can be said of it.
func (k *keeper) keep(i int, c *api.Cue) api.Errno {
	was := *c
	if e := snapCue(c, k.can.Grid); e != api.OK {
		return e
	}
	if !k.can.Lane {
		c.Lane = 0
	}
	if !k.can.Side {
		c.Side = api.Low
	}
	if !k.can.Name {
		c.Name = ""
	}
	c.Name, _, _ = mark.Name(k.can.Dialect, c.Name) // of a right cue and a dialect: no error
	k.tellIf(c.Start != was.Start || c.End != was.End, i, api.LTime)
	k.tellIf(c.Lane != was.Lane, i, api.LLane)
	k.tellIf(c.Side != was.Side, i, api.LSide)
	k.tellIf(c.Name != was.Name, i, api.LName)
	return k.keepText(i, c)
}

// keepText makes a cue's text the one that can be said, and tells what of it can't.
func (k *keeper) keepText(i int, c *api.Cue) api.Errno {
	t, e := style.Norm(c.Text)
	if e != api.OK {
		return e
	}
	var signs, lines, looks int
	c.Text, signs, lines, looks, e = mark.Keep(k.can.Dialect, t, k.can.Blank)
	k.tell(i, api.LSign, signs)
	k.tell(i, api.LLine, lines)
	k.tell(i, api.LStyle, looks)
	return e
}

// tell lays down a loss of n things, if there are some.
func (k *keeper) tell(cue, kind, n int) {
	if n > 0 {
		k.lost = append(k.lost, api.Loss{Cue: cue, Kind: kind, N: n})
	}
}

// tellIf lays down a loss of one thing, if it is another one.
func (k *keeper) tellIf(other bool, cue, kind int) {
	if other {
		k.tell(cue, kind, 1)
	}
}

// snapCue brings a cue's times to the grid, at least one step of it apart.
func snapCue(c *api.Cue, grid api.Ratio) api.Errno {
	c.Start, c.End = snap(c.Start, grid), snap(c.End, grid)
	if ratio.Cmp(c.End, c.Start) <= 0 {
		c.End, _ = ratio.Add(c.Start, grid)
	}
	if isLate(c.End) {
		c.End = c.Start
		c.Start, _ = ratio.Sub(c.End, grid)
	}
	// Where one did not fit, there is no time: that is told here.
	return cmp.Or(ratio.Time(c.Start), ratio.Time(c.End))
}

// snap tells the time on the grid that is next to another one, and not behind the last that may be.
func snap(t, grid api.Ratio) api.Ratio {
	near, _ := ratio.Snap(t, grid, api.HNear)
	if isLate(near) {
		near, _ = ratio.Snap(t, grid, api.HFloor)
	}
	return near
}

func isLate(t api.Ratio) bool {
	return ratio.Time(t) == api.ErrTime
}
