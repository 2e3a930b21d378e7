package style

import (
	"slices"
	"strings"

	"surtitle/api"
	"surtitle/utf"
)

// Cut, Join, Splice, Set work on parts, by signs.
func Cut(t api.Text, from, to int) (api.Text, api.Errno) {
	if e := Check(t); e != api.OK {
		return api.Text{}, e
	}
	if !between(from, to, count(t.S)) {
		return api.Text{}, api.ErrArg
	}
	var spans []api.Span
	for _, x := range outerFirst(t.Spans) {
		x.From = max(x.From, from)
		x.To = min(x.To, to)
		if x.From < x.To {
			spans = append(spans, x)
		}
	}
	return api.Text{S: signsOf(t.S, from, to), Spans: moved(spans, -from)}, api.OK
}

func Join(a, b api.Text) (api.Text, api.Errno) {
	if e := Check(a); e != api.OK {
		return api.Text{}, e
	}
	if e := Check(b); e != api.OK {
		return api.Text{}, e
	}
	s, e := glue(a.S, b.S)
	if e != api.OK {
		return api.Text{}, e
	}
	return textOf(s, slices.Concat(a.Spans, moved(b.Spans, count(a.S))))
}

func Splice(t api.Text, from, to int, with api.Text) (api.Text, api.Errno) {
	if e := Check(t); e != api.OK {
		return api.Text{}, e
	}
	if e := Check(with); e != api.OK {
		return api.Text{}, e
	}
	n := count(t.S)
	if !between(from, to, n) {
		return api.Text{}, api.ErrArg
	}
	s, e := glue(signsOf(t.S, 0, from), with.S, signsOf(t.S, to, n))
	if e != api.OK {
		return api.Text{}, e
	}
	h := hole{from: from, to: to, room: count(with.S)}
	return textOf(s, slices.Concat(h.around(t.Spans), moved(with.Spans, from)))
}

func Set(t api.Text, x api.Span) (api.Text, api.Errno) {
	if e := Check(t); e != api.OK {
		return api.Text{}, e
	}
	n := count(t.S)
	if !fits(x, n) {
		return api.Text{}, api.ErrSpan
	}
	return Make(t.S, runsOf(n, append(outerFirst(t.Spans), x)))
}

// between tells whether two places of n signs stand in their order.
func between(from, to, n int) bool {
	return from >= 0 && to >= from && to <= n
}

// signsOf tells the bytes of the signs between two places that may be.
func signsOf(s string, from, to int) string {
	part, _ := utf.Cut(s, api.USigns, from, to)
	return part
}

// glue tells texts one behind the other, if they are not too long, and none melts with what stands ahead of it.
func glue(l ...string) (string, api.Errno) {
	all := 0
	for _, s := range l {
		all += len(s)
	}
	if all > api.MaxText {
		return "", api.ErrLong
	}
	front := ""
	for _, s := range l {
		if utf.Melts(front, s) {
			return "", api.ErrSeam
		}
		front += s
	}
	// What is added to nothing is that string itself, not a new one.
	return strings.Clone(front), api.OK
}

// hole is a part of a text in the place of which room many signs come.
type hole struct {
	from, to, room int
}

// around tells what becomes of the spans of the text, the outer ones first.
func (h hole) around(spans []api.Span) []api.Span {
	var l []api.Span
	for _, x := range outerFirst(spans) {
		x.From, x.To = h.begin(x.From), h.end(x.To)
		if x.From < x.To {
			l = append(l, x)
		}
	}
	return l
}

// begin tells where a span begins then: one that began within the hole has only what is left of it behind.
func (h hole) begin(at int) int {
	switch {
	case at >= h.to:
		return at - h.to + h.from + h.room
	case at <= h.from:
		return at
	}
	return h.from + h.room
}

// end tells where a span ends then: one that ended within the hole has only what is left of it ahead.
func (h hole) end(at int) int {
	switch {
	case at <= h.from:
		return at
	case at >= h.to:
		return at - h.to + h.from + h.room
	}
	return h.from
}
