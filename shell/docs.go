package shell

import (
	"maps"
	"slices"
	"strconv"

	"surtitle/api"
	"surtitle/cue"
	"surtitle/dual"
	"surtitle/lane"
	"surtitle/retime"
	"surtitle/speed"
	"surtitle/sweep"
)

func (p *player) create(a args) ([]string, error) {
	return nil, p.set(a, api.Doc{})
}

func (p *player) retime(a args) ([]string, error) {
	var knots []api.Knot
	for pair := range slices.Chunk(a.ratios, 2) {
		knots = append(knots, api.Knot{In: pair[0], Out: pair[1]})
	}
	m, e := retime.New(knots)
	if e != api.OK {
		return nil, e
	}
	d, err := cue.Retime(p.doc(a, 0), m)
	if err != nil {
		return nil, err
	}
	return nil, p.set(a, d)
}

func (p *player) move(a args) ([]string, error) {
	d, err := cue.Shift(p.doc(a, 0), a.ratios[0])
	if err != nil {
		return nil, err
	}
	return nil, p.set(a, d)
}

// remake sets what turn makes of a document, and tells how many cues that has.
func (p *player) remake(a args, turn func(api.Doc) (api.Doc, error)) ([]string, error) {
	d, err := turn(p.doc(a, 0))
	if err != nil {
		return nil, err
	}
	return []string{howMany(d)}, p.set(a, d)
}

func (p *player) trim(a args) ([]string, error) { return p.remake(a, sweep.Trim) }

func (p *player) stack(a args) ([]string, error) { return p.remake(a, sweep.Stack) }

func (p *player) lanes(a args) ([]string, error) { return p.remake(a, lane.Lay) }

func (p *player) merge(a args) ([]string, error) {
	return p.remake(a, func(d api.Doc) (api.Doc, error) { return dual.Merge(d, p.doc(a, 1)) })
}

func (p *player) apart(a args) ([]string, error) {
	below, above, err := dual.Apart(p.doc(a, 0))
	if err != nil {
		return nil, err
	}
	return []string{howMany(below), howMany(above)}, p.set(a, below, above)
}

// rules are those of a line that tells how many signs are read in a second.
func rules(a args) speed.Rules {
	return speed.Rules{Signs: a.ratios[0], Least: api.Ratio{N: 1, D: 1}, Gap: api.Ratio{N: 0, D: 1}}
}

func (p *player) fit(a args) ([]string, error) {
	d, fast, err := speed.Fit(p.doc(a, 0), rules(a))
	if err != nil {
		return nil, err
	}
	return each(fast, sayFast), p.set(a, d)
}

func (p *player) list(args) ([]string, error) {
	names := slices.Sorted(maps.Keys(p.docs))
	return each(names, func(name string) string { return name + "=" + strconv.Itoa(p.docs[name].many) }), nil
}
