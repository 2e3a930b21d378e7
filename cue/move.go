package cue

import (
	"cmp"

	"surtitle/api"
	"surtitle/ratio"
	"surtitle/retime"
	"surtitle/style"
)

// Shift moves all, Retime maps all, Norm makes all texts normal.
func Shift(d api.Doc, by api.Ratio) (api.Doc, error) {
	if err := CheckDoc(d); err != nil {
		return api.Doc{}, err
	}
	if !ratio.Right(by) {
		return api.Doc{}, &Wrong{0, api.ErrWide}
	}
	return moved(d, func(t api.Ratio) (api.Ratio, api.Errno) { return ratio.Add(t, by) })
}

func Retime(d api.Doc, m *retime.Map) (api.Doc, error) {
	if err := CheckDoc(d); err != nil {
		return api.Doc{}, err
	}
	return moved(d, m.Apply)
}

func Norm(d api.Doc) (api.Doc, error) {
	if err := CheckDoc(d); err != nil {
		return api.Doc{}, err
	}
	return remade(d, func(_ int, c *api.Cue) api.Errno {
		var e api.Errno
		c.Text, e = style.Norm(c.Text)
		return e
	})
}

// remade tells a document of what turn makes of each cue; the first error, with its cue.
func remade(d api.Doc, turn func(int, *api.Cue) api.Errno) (api.Doc, error) {
	l := make([]api.Cue, 0, len(d.Cues))
	for i, c := range twins(d.Cues) {
		if e := turn(i, &c); e != api.OK {
			return api.Doc{}, &Wrong{i, e}
		}
		l = append(l, c)
	}
	return api.Doc{Cues: l}, nil
}

// moved tells a document whose times are those that goes tells.
func moved(d api.Doc, goes func(api.Ratio) (api.Ratio, api.Errno)) (api.Doc, error) {
	return remade(d, func(_ int, c *api.Cue) api.Errno {
		return cmp.Or(move(&c.Start, goes), move(&c.End, goes))
	})
}

// move makes a time the one that goes tells, if it is one.
func move(t *api.Ratio, goes func(api.Ratio) (api.Ratio, api.Errno)) api.Errno {
	var e api.Errno
	if *t, e = goes(*t); e != api.OK {
		return e
	}
	if t.N < 0 {
		return api.ErrBack
	}
	return ratio.Time(*t)
}
