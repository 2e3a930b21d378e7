package utf

import (
	"strings"
	"unicode/utf8"
)

// Pieces takes bytes in pieces to whole signs.
type Pieces struct {
	held string
}

func NewPieces() *Pieces { return &Pieces{} }

// Feed takes a piece: the signs that are whole then; End what is held back.
func (p *Pieces) Feed(b []byte) string {
	all := p.held + string(b)
	cut := len(all) - len(openEnd(all))
	// A copy, lest a few held bytes keep the memory of a whole piece.
	p.held = strings.Clone(all[cut:])
	return all[:cut]
}

func (p *Pieces) End() string {
	rest := p.held
	p.held = ""
	return rest
}

func (p *Pieces) Held() int { return len(p.held) }

// openEnd tells the longest end of s that is a front, and not the whole, of some valid encoding.
func openEnd(s string) string {
	for n := min(len(s), utf8.UTFMax-1); n > 0; n-- {
		// What can't be gone on with counts as full there, as bad signs.
		if end := s[len(s)-n:]; !utf8.FullRuneInString(end) {
			return end
		}
	}
	return ""
}

// Melts tells whether two texts melt (W2).
func Melts(a, b string) bool {
	// A byte that begins an encoding is never in the midst of another one: signs change at the seam only where one reaches over it, from a's open end on.
	open := openEnd(a)
	return open != "" && firstLen(open+b[:min(len(b), utf8.UTFMax)]) > len(open)
}

// firstLen tells the length of the first sign of s; 0, if there is none.
func firstLen(s string) int {
	for g := range Signs(s) {
		return g.Len
	}
	return 0
}
