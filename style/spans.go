package style

import (
	"cmp"
	"slices"

	"surtitle/api"
)

// maxColour is the greatest Value of a colour.
const maxColour = 0xFFFFFF

// fits tells whether a span may be one of a text with n signs.
func fits(x api.Span, n int) bool {
	most := 0
	if x.Kind == api.KColour {
		most = maxColour
	}
	return x.Kind >= api.KBold && x.Kind <= api.KColour &&
		x.Value >= 0 && x.Value <= most &&
		x.From >= 0 && x.From < x.To && x.To <= n
}

// allFit tells whether each span may be one of a text with n signs.
func allFit(spans []api.Span, n int) bool {
	for _, x := range spans {
		if !fits(x, n) {
			return false
		}
	}
	return true
}

// cross tells whether two of the spans share a sign, and none of them is within the other.
func cross(spans []api.Span) bool {
	// Of spans that are not over yet each is within the one ahead of it: it is enough to look at the last one.
	var ends []int
	for _, x := range outerFirst(spans) {
		for len(ends) > 0 && ends[len(ends)-1] <= x.From {
			ends = ends[:len(ends)-1]
		}
		if len(ends) > 0 && ends[len(ends)-1] < x.To {
			return true
		}
		ends = append(ends, x.To)
	}
	return false
}

// outerFirst tells the spans in an order in which none stands ahead of one that it is within; of the same stretch as they stood.
func outerFirst(spans []api.Span) []api.Span {
	l := slices.Clone(spans)
	slices.SortStableFunc(l, compareStretch)
	return l
}

// compareStretch orders by From, then the longer one first.
func compareStretch(a, b api.Span) int {
	return cmp.Or(cmp.Compare(a.From, b.From), cmp.Compare(b.To, a.To))
}

// moved tells the spans, each by as many signs behind.
func moved(spans []api.Span, by int) []api.Span {
	l := slices.Clone(spans)
	for i := range l {
		l[i].From += by
		l[i].To += by
	}
	return l
}
