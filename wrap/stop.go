package wrap

import (
	"surtitle/api"
	"surtitle/style"
)

// Kinds of places; a text's end is no place.
const (
	none = 0
	hard = 1
	soft = 2
	cut  = 3
)

// stop is where a line ends, at a place or at the text's end: where its text ends, and where the next line begins. Between the two stand the blanks and the line end that no line has.
type stop struct {
	kind      int
	end, next spot
}

// stopsOf tells the places of a text, and behind them its end.
func stopsOf(s string) []stop {
	var l []stop
	parts := partsOf(s)
	for n := 1; n < len(parts); n++ {
		if kind := kindAt(parts, n); kind != none {
			l = append(l, stopAt(parts, n, kind))
		}
	}
	return append(l, stopAt(parts, len(parts)-1, none))
}

// kindAt tells the kind of the place ahead of a part that has one ahead, by the rules of P1001 in their order.
func kindAt(l []part, n int) int {
	x, y := l[n-1], l[n]
	switch {
	case x.class == lineEnd:
		return hard
	case y.class == lineEnd, y.class == blank, y.class == textEnd:
		return none
	case x.class == blank:
		return soft
	case x.class == dash && n > 1 && mayHaveDash(l[n-2]):
		return soft
	case (x.wide || y.wide) && x.class != opening && y.class != closing:
		return soft
	}
	return cut
}

// mayHaveDash tells whether a dash behind a cluster belongs to a word there, so that a line may end with it.
func mayHaveDash(p part) bool {
	return p.class != blank && p.class != lineEnd && p.class != dash
}

// stopAt tells the stop of a kind ahead of a part.
func stopAt(l []part, n, kind int) stop {
	end := n
	if kind == hard {
		end--
	}
	for end > 0 && l[end-1].class == blank {
		end--
	}
	return stop{kind: kind, end: l[end].spot, next: l[n].spot}
}

// place tells the stop as a face does.
func (x stop) place() Break { return Break{Sign: x.next.sign, Kind: x.kind} }

// badness tells that of the line from a spot up to the stop, and whether it fits.
func (x stop) badness(begin spot, width int) (int64, bool) {
	lack := width - (x.end.cells - begin.cells)
	if lack < 0 {
		return 0, false
	}
	n := int64(lack * lack)
	if x.kind == cut {
		n += cutBadness
	}
	return n, true
}

// lay takes the blanks at the stop out of a text, and lays a line end in where there is none yet.
func (x stop) lay(t api.Text) (api.Text, api.Errno) {
	from, to, with := x.end.sign, x.next.sign, ""
	switch x.kind {
	case hard:
		to--
	case soft, cut:
		with = "\n"
	}
	if from == to && with == "" {
		return t, api.OK
	}
	return style.Splice(t, from, to, api.Text{S: with})
}
