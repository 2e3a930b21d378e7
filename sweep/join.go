package sweep

import (
	"cmp"

	"surtitle/api"
	"surtitle/cue"
	"surtitle/style"
)

// byStart tells the numbers of the cues of a right document, those that begin at the same time together.
func byStart(cues []api.Cue) [][]int {
	var l [][]int
	for i, c := range cues {
		if i == 0 || cues[i-1].Start != c.Start {
			l = append(l, nil)
		}
		last := len(l) - 1
		l[last] = append(l[last], i)
	}
	return l
}

// merged tells the one cue that cues with the same Start are made.
func merged(cues []api.Cue, which []int) (api.Cue, error) {
	c := cues[which[0]]
	if len(which) == 1 {
		return c, nil
	}
	t, err := joined(cues, which)
	if err != nil {
		return api.Cue{}, err
	}
	c.Text = t
	c.End = cues[which[len(which)-1]].End
	return c, nil
}

// stacked tells the one cue that those of a segment are made in it.
func stacked(cues []api.Cue, s api.Seg) (api.Cue, error) {
	t, err := joined(cues, s.Cues)
	if err != nil {
		return api.Cue{}, err
	}
	first := cues[s.Cues[0]]
	return api.Cue{Start: s.From, End: s.To, Side: first.Side, Name: commonName(cues, s.Cues), Text: t}, nil
}

// commonName tells the name of all of some cues; an empty one, if they have several.
func commonName(cues []api.Cue, which []int) string {
	name := cues[which[0]].Name
	for _, i := range which {
		if cues[i].Name != name {
			return ""
		}
	}
	return name
}

// joined tells the texts of some cues as one, made normal.
func joined(cues []api.Cue, which []int) (api.Text, error) {
	t, e := inHalves(cues, which)
	if e != api.OK {
		return api.Text{}, refused(cues, which)
	}
	if t, e = style.Norm(t); e != api.OK {
		return api.Text{}, &cue.Wrong{Cue: which[len(which)-1], Err: e}
	}
	return t, nil
}

// inHalves tells the texts of some cues as one. One by one, all that stands there would be gone through again for each of them.
func inHalves(cues []api.Cue, which []int) (api.Text, api.Errno) {
	if len(which) == 1 {
		return cues[which[0]].Text, api.OK
	}
	half := len(which) / 2
	front, e := inHalves(cues, which[:half])
	rest, f := inHalves(cues, which[half:])
	if e = cmp.Or(e, f); e != api.OK {
		return api.Text{}, e
	}
	return below(front, rest)
}

// refused tells the first cue, and why, whose text can't be laid behind those ahead of it: that, halves don't tell.
func refused(cues []api.Cue, which []int) error {
	all := cues[which[0]].Text
	for _, i := range which[1:] {
		var e api.Errno
		if all, e = below(all, cues[i].Text); e != api.OK {
			return &cue.Wrong{Cue: i, Err: e}
		}
	}
	return nil
}

// below tells two texts with a line end between them.
func below(a, b api.Text) (api.Text, api.Errno) {
	front, e := style.Join(a, api.Text{S: "\n"})
	if e != api.OK {
		return api.Text{}, e
	}
	return style.Join(front, b)
}
