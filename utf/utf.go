// Package utf: signs of any bytes; places. See doc/01-utf.md.
package utf

import (
	"iter"
	"strings"
	"surtitle/api"
)

// Signs goes over a text's signs; Count, Pairs tell how many signs, units of UTF-16 it has.
func Signs(s string) iter.Seq[api.Sign] {
	return func(yield func(api.Sign) bool) {
		for at, r := range s {
			if !yield(signAt(s, at, r)) {
				return
			}
		}
	}
}

// signAt tells the sign at a place at which ranging tells the rune r. Ranging tells U+FFFD of a bad byte too, so only the bytes there say whether the rune was said.
func signAt(s string, at int, r rune) api.Sign {
	whole := string(r)
	if !strings.HasPrefix(s[at:], whole) {
		return api.Sign{At: at, Len: 1, Rune: api.Bad, Bad: true}
	}
	return api.Sign{At: at, Len: len(whole), Rune: r}
}

func Count(s string) int {
	n := 0
	for range s {
		n++
	}
	return n
}

func Pairs(s string) int {
	n := 0
	for _, r := range s {
		n += pairsOf(r)
	}
	return n
}

// pairsOf tells how many units of UTF-16 a rune has.
func pairsOf(r rune) int {
	if r >= 0x10000 {
		return 2
	}
	return 1
}

// Runes tells a text's runes, Text the text of runes; Repair lays U+FFFD in the place of each bad sign: how many.
func Runes(s string) []rune { return []rune(s) }

func Text(l []rune) string { return string(l) }

func Repair(s string) (string, int) {
	var whole strings.Builder
	n := 0
	for g := range Signs(s) {
		if g.Bad {
			n++
		}
		whole.WriteRune(g.Rune)
	}
	return whole.String(), n
}

// Bads tells the places in bytes of the bad signs.
func Bads(s string) []int {
	var l []int
	for g := range Signs(s) {
		if g.Bad {
			l = append(l, g.At)
		}
	}
	return l
}
