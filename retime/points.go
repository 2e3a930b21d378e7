package retime

import (
	"iter"

	"surtitle/api"
	"surtitle/ratio"
)

// points goes over the Ins that a map with these bends has knots at: the bends, with one ahead and one behind; 0 and 1, if there are none. Beside each stands its error.
func points(bends []api.Ratio) iter.Seq2[api.Ratio, api.Errno] {
	return func(yield func(api.Ratio, api.Errno) bool) {
		if len(bends) == 0 {
			_ = yield(whole(0), api.OK) && yield(whole(1), api.OK)
			return
		}
		if !yield(ratio.Sub(bends[0], whole(1))) {
			return
		}
		for _, t := range bends {
			if !yield(t, api.OK) {
				return
			}
		}
		yield(ratio.Add(bends[len(bends)-1], whole(1)))
	}
}

// knotsAt tells the knots at some points, their Outs told by a function.
func knotsAt(points iter.Seq2[api.Ratio, api.Errno], apply func(api.Ratio) (api.Ratio, api.Errno)) ([]api.Knot, api.Errno) {
	var l []api.Knot
	for in, e := range points {
		if e != api.OK {
			return nil, e
		}
		out, e := apply(in)
		if e != api.OK {
			return nil, e
		}
		l = append(l, api.Knot{In: in, Out: out})
	}
	return l, api.OK
}

// merge makes one rising list of two, with what stands in both once.
func merge[T any](a, b []T, order func(T, T) int) []T {
	l := make([]T, 0, len(a)+len(b))
	for len(a) > 0 && len(b) > 0 {
		way := order(a[0], b[0])
		if way <= 0 {
			l = append(l, a[0])
			a = a[1:]
		} else {
			l = append(l, b[0])
		}
		if way >= 0 {
			b = b[1:]
		}
	}
	return append(append(l, a...), b...)
}

// each tells what a function makes of all; at the first error nothing, its place and the error.
func each[T, U any](l []T, turn func(T) (U, api.Errno)) ([]U, int, api.Errno) {
	var all []U
	for i, x := range l {
		y, e := turn(x)
		if e != api.OK {
			return nil, i, e
		}
		all = append(all, y)
	}
	return all, 0, api.OK
}
