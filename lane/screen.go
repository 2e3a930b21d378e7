package lane

import (
	"surtitle/api"
	"surtitle/wrap"
)

const (
	maxRows  = 100
	minWidth = 2 // the widest cluster's cells
)

// screen is what cues are laid on, row by row.
type screen struct {
	width     int
	ends      ends     // by rows
	orders    [2][]int // by Side: the rows, those that are taken first ahead
	lineCount map[string]int
}

func newScreen(rows, width int) *screen {
	s := &screen{width: width, lineCount: map[string]int{}}
	for row := range rows {
		s.ends = append(s.ends, api.Ratio{N: 0, D: 1})
		s.orders[api.High] = append(s.orders[api.High], row)
		s.orders[api.Low] = append(s.orders[api.Low], rows-1-row)
	}
	return s
}

// place gives a cue its rows; false, if there are none.
func (s *screen) place(c api.Cue) (Place, bool) {
	many := s.lines(c.Text.S)
	order := s.orders[c.Side]
	n, ok := firstFree(order, many, func(row int) bool { return isOver(s.ends[row], c) })
	if !ok {
		return Place{}, false
	}
	p := Place{Row: min(order[n], order[n+many-1]), Rows: many}
	for k := range many {
		s.ends[p.Row+k] = c.End
	}
	return p, true
}

// lines tells how many rows a text needs. Breaking is dear, and texts come again: each is broken once.
func (s *screen) lines(text string) int {
	many, ok := s.lineCount[text]
	if !ok {
		breaks, _, _ := wrap.Wrap(text, s.width) // of a right text and a width that may be: never refused
		many = len(breaks) + 1
		s.lineCount[text] = many
	}
	return many
}
