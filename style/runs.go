package style

import (
	"cmp"
	"slices"

	"surtitle/api"
)

// lookAt tells how a sign looks when spans are laid over it one by one: of several colours the last one is seen.
func lookAt(spans []api.Span, sign int) api.Attr {
	var a api.Attr
	for _, x := range spans {
		if x.From <= sign && sign < x.To {
			lay(&a, x)
		}
	}
	return a
}

// lay makes a look what it is under one more span.
func lay(a *api.Attr, x api.Span) {
	switch x.Kind {
	case api.KBold:
		a.Bold = true
	case api.KItalic:
		a.Italic = true
	case api.KUnder:
		a.Under = true
	case api.KStrike:
		a.Strike = true
	case api.KColour:
		a.Colour = x.Value + 1
	}
}

// runsOf tells the longest stretches of n signs that look alike when spans are laid over them one by one.
func runsOf(n int, spans []api.Span) []api.Run {
	var l []api.Run
	from := 0
	for _, to := range bounds(n, spans) {
		// Between two bounds all signs are in the same spans.
		a := lookAt(spans, from)
		if last := len(l) - 1; last >= 0 && l[last].Attr == a {
			l[last].To = to
		} else {
			l = append(l, api.Run{From: from, To: to, Attr: a})
		}
		from = to
	}
	return l
}

// bounds tells the places behind 0 at which a span of a text with n signs begins or ends, and its end, rising.
func bounds(n int, spans []api.Span) []int {
	l := []int{0, n}
	for _, x := range spans {
		l = append(l, x.From, x.To)
	}
	slices.Sort(l)
	return slices.Compact(l)[1:]
}

// parts tells whether the runs part n signs, and each has a colour that may be.
func parts(l []api.Run, n int) bool {
	at := 0
	for _, r := range l {
		if r.From != at || r.To <= r.From || r.Colour < 0 || r.Colour > maxColour+1 {
			return false
		}
		at = r.To
	}
	return at == n
}

// normal tells the spans of the normal form (P704) of a text that these runs part.
func normal(l []api.Run) []api.Span {
	if len(l) == 0 {
		return nil
	}
	var spans []api.Span
	cuts := make([]bool, l[len(l)-1].To+1)
	for kind := api.KBold; kind <= api.KColour; kind++ {
		more := stretches(l, kind, cuts)
		for _, x := range more {
			cuts[x.From], cuts[x.To] = true, true
		}
		spans = append(spans, more...)
	}
	slices.SortFunc(spans, func(a, b api.Span) int {
		return cmp.Or(compareStretch(a, b), cmp.Compare(a.Kind, b.Kind))
	})
	return spans
}

// stretches tells the longest spans of a kind that the runs have, none of which goes on over a cut.
func stretches(l []api.Run, kind int, cuts []bool) []api.Span {
	var spans []api.Span
	for _, r := range l {
		has, value := worth(r, kind)
		last := len(spans) - 1
		switch {
		case !has:
		case last >= 0 && spans[last].To == r.From && spans[last].Value == value && !cuts[r.From]:
			spans[last].To = r.To
		default:
			spans = append(spans, api.Span{From: r.From, To: r.To, Kind: kind, Value: value})
		}
	}
	return spans
}

// worth tells whether a run has a kind, and the Value of a span that says so.
func worth(r api.Run, kind int) (bool, int) {
	switch kind {
	case api.KBold:
		return r.Bold, 0
	case api.KItalic:
		return r.Italic, 0
	case api.KUnder:
		return r.Under, 0
	case api.KStrike:
		return r.Strike, 0
	}
	return r.Colour > 0, r.Colour - 1
}
