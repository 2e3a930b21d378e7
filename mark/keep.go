package mark

import (
	"strings"

	"surtitle/api"
	"surtitle/style"
)

// sign is one of a text, and how it looks.
type sign struct {
	text string
	look look
}

// signsOf tells the signs of a right text.
func signsOf(t api.Text) []sign {
	var l []sign
	for g, a := range style.Signs(t) {
		l = append(l, sign{t.S[g.At : g.At+g.Len], lookOf(a)})
	}
	return l
}

// textOf tells the text of signs.
func textOf(l []sign) (api.Text, api.Errno) {
	var p pile
	for _, g := range l {
		p.put(g.text, g.look)
	}
	return p.text()
}

// swap lays others in the place of signs that a dialect can't say, and tells how many.
func swap(dialect int, l []sign) int {
	n := 0
	for i, g := range l {
		for _, r := range g.text {
			if other := instead(dialect, r); other != r {
				l[i].text = string(other)
				n++
			}
		}
	}
	return n
}

// instead tells the rune that stands for one that a dialect can't say (W10); of every other one that rune.
func instead(dialect int, r rune) rune {
	// The look-alikes of ASCII's signs stand so far behind them.
	const wide = 0xFEE0
	switch {
	case r == '\n':
		return r
	case r < ' ':
		return ' '
	case strings.ContainsRune(unsaid(dialect), r):
		return r + wide
	}
	return r
}

// unsaid tells the signs from the blank on that a dialect can't say.
func unsaid(dialect int) string {
	switch dialect {
	case api.DAngle:
		return "<>"
	case api.DPipe:
		return "{|}"
	case api.DBrace:
		return `{\}`
	}
	return ""
}

func (g sign) endsLine() bool { return g.text == "\n" }

// withoutBlankLines tells the signs without the line ends that make blank lines.
func withoutBlankLines(l []sign) []sign {
	end := len(l)
	for end > 0 && l[end-1].endsLine() {
		end--
	}
	var full []sign
	for i, g := range l[:end] {
		if g.endsLine() && (i == 0 || l[i-1].endsLine()) {
			continue
		}
		full = append(full, g)
	}
	return full
}

// fade takes off the looks that a dialect can't say, and tells of how many signs.
func fade(dialect int, l []sign) int {
	n := 0
	switch dialect {
	case api.DVoice:
		for i, g := range l {
			g.look[api.KStrike] = 0
			n += l[i].wear(g.look)
		}
	case api.DPipe:
		for len(l) > 0 {
			size := lineSize(l)
			n += even(l[:size])
			l = l[size:]
		}
	}
	return n
}

// wear makes a sign look so, and tells 1, if it looked otherwise.
func (g *sign) wear(l look) int {
	if g.look == l {
		return 0
	}
	g.look = l
	return 1
}

// lineSize tells how many signs the first line has, with its end.
func lineSize(l []sign) int {
	for i, g := range l {
		if g.endsLine() {
			return i + 1
		}
	}
	return len(l)
}

// even leaves to the signs of a line what all of them have alike, and tells how many had more.
func even(line []sign) int {
	all := line[0].look
	for _, g := range line {
		for kind, worth := range g.look {
			if worth != all[kind] {
				all[kind] = 0
			}
		}
	}
	n := 0
	for i := range line {
		n += line[i].wear(all)
	}
	return n
}
