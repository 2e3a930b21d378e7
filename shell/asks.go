package shell

import (
	"strconv"

	"surtitle/api"
	"surtitle/bidi"
	"surtitle/cell"
	"surtitle/cue"
	"surtitle/dual"
	"surtitle/lane"
	"surtitle/speed"
	"surtitle/sweep"
	"surtitle/utf"
	"surtitle/wrap"
)

func (p *player) cues(a args) ([]string, error) {
	return each(p.doc(a, 0).Cues, sayCue), nil
}

// asked tells the cue that a line's first number tells.
func (p *player) asked(a args) (api.Cue, error) {
	l, n := p.doc(a, 0).Cues, a.numbers[0]
	if n < 0 || n >= len(l) {
		return api.Cue{}, api.ErrArg
	}
	return l[n], nil
}

func (p *player) cue(a args) ([]string, error) {
	c, err := p.asked(a)
	if err != nil {
		return nil, err
	}
	s := c.Text.S
	return []string{sayCue(c), strconv.Itoa(utf.Count(s)), strconv.Itoa(utf.Pairs(s)), strconv.Itoa(cell.Of(s))}, nil
}

func (p *player) active(a args) ([]string, error) {
	var told []string
	for n := range cue.Active(p.doc(a, 0), a.ratios[0]) {
		told = append(told, strconv.Itoa(n))
	}
	return told, nil
}

func (p *player) segments(a args) ([]string, error) {
	l, err := sweep.Segments(p.doc(a, 0))
	return each(l, saySegment), err
}

func (p *player) pairs(a args) ([]string, error) {
	l, err := dual.Pairs(p.doc(a, 0), p.doc(a, 1))
	return each(l, sayPair), err
}

func (p *player) wrap(a args) ([]string, error) {
	c, err := p.asked(a)
	if err != nil {
		return nil, err
	}
	breaks, badness, e := wrap.Wrap(c.Text.S, a.numbers[1])
	if e != api.OK {
		return nil, e
	}
	lines, e := wrap.Lines(c.Text.S, breaks)
	if e != api.OK {
		return nil, e
	}
	told := []string{strconv.FormatInt(badness, 10)}
	base := bidi.Base(c.Text.S, 0)
	for _, line := range lines {
		seen, e := bidi.Visual(line, base)
		if e != api.OK {
			return nil, e
		}
		told = append(told, Quote([]byte(seen)))
	}
	return told, nil
}

func (p *player) rows(a args) ([]string, error) {
	l, err := lane.Rows(p.doc(a, 0), a.numbers[0], a.numbers[1])
	return each(l, sayPlace), err
}

func (p *player) fast(a args) ([]string, error) {
	l, err := speed.Look(p.doc(a, 0), rules(a))
	return each(l, sayFast), err
}

func (p *player) same(a args) ([]string, error) {
	if cue.Same(p.doc(a, 0), p.doc(a, 1)) {
		return []string{"yes"}, nil
	}
	return []string{"no"}, nil
}
