package edit

import (
	"cmp"
	"slices"
	"sort"
	"strings"

	"surtitle/api"
	"surtitle/cue"
	"surtitle/ratio"
	"surtitle/style"
	"surtitle/utf"
)

// list is the cues of a document that is right. Its methods tell what an edit would do, or why it is refused, and change nothing.
type list []api.Cue

// plans tells by which method an edit is gone about, by its Op.
func plans() [api.ERename + 1]func(list, api.Edit) (change, api.Errno) {
	return [...]func(list, api.Edit) (change, api.Errno){
		api.ELay:    list.lay,
		api.ETake:   list.take,
		api.ETimes:  list.times,
		api.EText:   list.text,
		api.EStyle:  list.style,
		api.EShift:  list.shift,
		api.ESplit:  list.split,
		api.EJoin:   list.join,
		api.EPlace:  list.place,
		api.ERename: list.rename,
	}
}

func (l list) plan(e api.Edit) (change, api.Errno) {
	if e.Op < api.ELay || e.Op > api.ERename {
		return nil, api.ErrKind
	}
	return plans()[e.Op](l, e)
}

// has tells whether there is a cue at that place.
func (l list) has(at int) bool { return at >= 0 && at < len(l) }

// fits tells whether cues would be in order where those from one place on, ahead of another one, stand.
func (l list) fits(from, to int, now ...api.Cue) bool {
	row := slices.Concat[[]api.Cue](l[max(from-1, 0):from], now, l[to:min(to+1, len(l))])
	return slices.IsSortedFunc(row, cue.Compare)
}

func (l list) lay(e api.Edit) (change, api.Errno) {
	if e.Cue < 0 || e.Cue > len(l) {
		return nil, api.ErrArg
	}
	if f := cue.Check(e.New); f != api.OK {
		return nil, f
	}
	switch {
	case len(l) >= api.MaxCues:
		return nil, api.ErrMany
	case !l.fits(e.Cue, e.Cue, e.New):
		return nil, api.ErrOrder
	}
	return change{swap{at: e.Cue, now: cue.Twin(api.Doc{Cues: []api.Cue{e.New}}).Cues}}, api.OK
}

func (l list) take(e api.Edit) (change, api.Errno) {
	if !l.has(e.Cue) {
		return nil, api.ErrArg
	}
	return change{swap{at: e.Cue, was: []api.Cue{l[e.Cue]}}}, api.OK
}

// turned tells the change by which the cue at a place is what turn makes of it, where it stands.
func (l list) turned(at int, turn func(c *api.Cue) api.Errno) (change, api.Errno) {
	if !l.has(at) {
		return nil, api.ErrArg
	}
	c := l[at]
	if f := turn(&c); f != api.OK {
		return nil, f
	}
	// All that turn left as it was is right: an error is one of what was set.
	if f := cue.Check(c); f != api.OK {
		return nil, f
	}
	if !l.fits(at, at+1, c) {
		return nil, api.ErrOrder
	}
	return change{swap{at: at, was: []api.Cue{l[at]}, now: []api.Cue{c}}}, api.OK
}

func (l list) times(e api.Edit) (change, api.Errno) {
	return l.turned(e.Cue, func(c *api.Cue) api.Errno {
		c.Start, c.End = e.Start, e.End
		return api.OK
	})
}

func (l list) place(e api.Edit) (change, api.Errno) {
	return l.turned(e.Cue, func(c *api.Cue) api.Errno {
		c.Lane, c.Side = e.Lane, e.Side
		return api.OK
	})
}

func (l list) rename(e api.Edit) (change, api.Errno) {
	return l.turned(e.Cue, func(c *api.Cue) api.Errno {
		c.Name = strings.Clone(e.Name)
		return api.OK
	})
}

func (l list) text(e api.Edit) (change, api.Errno) {
	return l.turned(e.Cue, func(c *api.Cue) api.Errno {
		from, to, f := part(c.Text.S, e)
		if f == api.OK {
			c.Text, f = style.Splice(c.Text, from, to, e.Text)
		}
		return f
	})
}

func (l list) style(e api.Edit) (change, api.Errno) {
	return l.turned(e.Cue, func(c *api.Cue) api.Errno {
		from, to, f := part(c.Text.S, e)
		if f == api.OK {
			c.Text, f = style.Set(c.Text, api.Span{From: from, To: to, Kind: e.Kind, Value: e.Value})
		}
		return f
	})
}

// part tells the part of a text that an edit speaks of, by signs.
func part(s string, e api.Edit) (from, to int, f api.Errno) {
	from, f = utf.Place(s, e.From, e.Unit, api.USigns)
	if f != api.OK {
		return 0, 0, f
	}
	to, f = utf.Place(s, e.To, e.Unit, api.USigns)
	if f != api.OK {
		return 0, 0, f
	}
	if to < from {
		return 0, 0, api.ErrArg
	}
	return from, to, api.OK
}

func (l list) shift(e api.Edit) (change, api.Errno) {
	if e.Cue < 0 || e.To < e.Cue || e.To > len(l) {
		return nil, api.ErrArg
	}
	moved, err := cue.Shift(api.Doc{Cues: bare(l[e.Cue:e.To])}, e.Start)
	if err != nil {
		return nil, number(err)
	}
	if !l.fits(e.Cue, e.To, moved.Cues...) {
		return nil, api.ErrOrder
	}
	return change{slide{from: e.Cue, to: e.To, by: e.Start}}, api.OK
}

// bare tells cues with their times alone: where nothing else counts, texts need not be gone through.
func bare(l list) []api.Cue {
	var times []api.Cue
	for _, c := range l {
		times = append(times, api.Cue{Start: c.Start, End: c.End})
	}
	return times
}

func (l list) split(e api.Edit) (change, api.Errno) {
	if !l.has(e.Cue) {
		return nil, api.ErrArg
	}
	c := l[e.Cue]
	at, f := utf.Place(c.Text.S, e.From, e.Unit, api.USigns)
	if f = cmp.Or(f, ratio.Time(e.Start)); f != api.OK {
		return nil, f
	}
	front, rest := halves(c, at, e.Start)
	switch {
	case ratio.Cmp(front.Start, front.End) >= 0, ratio.Cmp(rest.Start, rest.End) >= 0:
		return nil, api.ErrBack
	case len(l) >= api.MaxCues:
		return nil, api.ErrMany
	case !l.fits(e.Cue, e.Cue+1, front):
		return nil, api.ErrOrder
	}
	return change{
		swap{at: e.Cue, was: []api.Cue{c}, now: []api.Cue{front}},
		swap{at: l.behind(rest), now: []api.Cue{rest}},
	}, api.OK
}

// halves tells a cue cut in two, at a place of its signs and at a time.
func halves(c api.Cue, at int, t api.Ratio) (front, rest api.Cue) {
	front, rest = c, c
	front.End, rest.Start = t, t
	front.Text, _ = style.Cut(c.Text, 0, at)
	rest.Text, _ = style.Cut(c.Text, at, utf.Count(c.Text.S))
	return front, rest
}

// behind tells the first place at which all cues stand behind that one.
func (l list) behind(c api.Cue) int {
	return sort.Search(len(l), func(i int) bool { return cue.Compare(l[i], c) > 0 })
}

func (l list) join(e api.Edit) (change, api.Errno) {
	if e.Cue < 0 || e.Cue >= len(l)-1 {
		return nil, api.ErrArg
	}
	a, b := l[e.Cue], l[e.Cue+1]
	// The later End never brings it behind the next cue: that one begins later, or ends as late as b.
	both := a
	both.End, _ = ratio.Most(a.End, b.End)
	var f api.Errno
	if both.Text, f = style.Join(a.Text, b.Text); f != api.OK {
		return nil, f
	}
	return change{swap{at: e.Cue, was: []api.Cue{a, b}, now: []api.Cue{both}}}, api.OK
}
