package conv

import (
	"cmp"
	"errors"
	"sync"

	"surtitle/api"
)

// path leads from one format to another.
type path struct {
	from, to Format
}

// pathOf tells the path between two formats; its error wraps Of's.
func pathOf(from, to int, r api.Rate) (path, error) {
	one, e := Of(from, r)
	two, e2 := Of(to, r)
	if e = cmp.Or(e, e2); e != api.OK {
		return path{}, &Failed{Err: e}
	}
	return path{one, two}, nil
}

// convert takes bytes to the path's end.
func (p path) convert(b []byte) ([]byte, []api.Loss, error) {
	d, fault := p.from.Parse(b)
	if fault.Err != api.OK {
		return nil, nil, &Failed{Fault: fault}
	}
	made, lost, err := p.to.Write(d)
	if err != nil {
		return nil, nil, &Failed{Err: err}
	}
	return made, lost, nil
}

// Farm converts many, by so many goroutines.
func Farm(crew int, l [][]byte, from, to int, r api.Rate) ([][]byte, api.Errno) {
	if crew < 1 || crew > api.MaxCrew {
		return nil, api.ErrArg
	}
	p, err := pathOf(from, to, r)
	var e api.Errno
	if errors.As(err, &e) {
		return nil, e
	}
	return p.convertAll(crew, l), api.OK
}

// convertAll takes each of l to the path's end; no bytes, where that fails.
func (p path) convertAll(crew int, l [][]byte) [][]byte {
	made := make([][]byte, len(l))
	var all sync.WaitGroup
	all.Add(crew)
	for first := range crew {
		go func() {
			defer all.Done()
			// Whose turn a place is hangs on its number alone: no two goroutines write at one.
			for i := first; i < len(l); i += crew {
				made[i], _, _ = p.convert(l[i])
			}
		}()
	}
	all.Wait()
	return made
}
