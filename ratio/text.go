package ratio

import (
	"math/bits"
	"strconv"
	"strings"

	"surtitle/api"
)

const (
	mostDigits = 19 // a number of so many always fits in 64 bits
	mostBehind = 9
)

// Text writes a ratio.
func Text(r api.Ratio) string {
	if r.D == 1 {
		return strconv.FormatInt(r.N, 10)
	}
	return strconv.FormatInt(r.N, 10) + "/" + strconv.FormatInt(r.D, 10)
}

// Parse reads a ratio.
func Parse(s string) (api.Ratio, api.Errno) {
	w, ok := read(s)
	if !ok || w.below && w.nought() {
		return api.Ratio{}, api.ErrNumber
	}
	if len(w.whole) > mostDigits || len(w.under) > mostDigits {
		return api.Ratio{}, api.ErrWide
	}
	if w.under == "0" {
		return api.Ratio{}, api.ErrZero
	}
	return lowest(w.top(), w.bottom())
}

// written is a ratio's digits as they stand in a text: whole, then under behind a `/`, or behind a `.` those behind it.
type written struct {
	below                bool
	whole, under, behind string
}

// read takes a text apart; false: it is not of a ratio's form.
func read(s string) (written, bool) {
	var w written
	s, w.below = strings.CutPrefix(s, "-")
	var isOver, isPoint bool
	if w.whole, w.under, isOver = strings.Cut(s, "/"); isOver {
		return w, isNumber(w.whole) && isNumber(w.under)
	}
	if w.whole, w.behind, isPoint = strings.Cut(s, "."); isPoint {
		return w, isNumber(w.whole) && areDigits(w.behind) && len(w.behind) <= mostBehind
	}
	return w, isNumber(w.whole)
}

// isNumber tells whether a text is digits without noughts ahead.
func isNumber(s string) bool {
	return areDigits(s) && (s == "0" || s[0] != '0')
}

func areDigits(s string) bool {
	return s != "" && strings.Trim(s, "0123456789") == ""
}

// nought tells whether there is nothing but noughts ahead of a `/` and around a `.`.
func (w *written) nought() bool {
	return strings.Trim(w.whole+w.behind, "0") == ""
}

func (w *written) top() wide {
	hi, lo := bits.Mul64(number(w.whole), w.scale())
	n := wide{hi, lo}.plus(wide{lo: number(w.behind)})
	if w.below {
		return n.negative()
	}
	return n
}

func (w *written) bottom() uint64 {
	if w.under != "" {
		return number(w.under)
	}
	return w.scale()
}

// scale tells by how much the digits behind a `.` make the top greater.
func (w *written) scale() uint64 {
	n := uint64(1)
	for range len(w.behind) {
		n *= 10
	}
	return n
}

// number tells what digits say; of none 0.
func number(digits string) uint64 {
	n := uint64(0)
	for i := range len(digits) {
		n = n*10 + uint64(digits[i]-'0')
	}
	return n
}
