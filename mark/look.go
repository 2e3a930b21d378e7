package mark

import (
	"strings"

	"surtitle/api"
	"surtitle/style"
)

// look is how a sign looks, by kind: 0, if it is not so; of a colour one more than its value; else 1.
type look [api.KColour + 1]int

func lookOf(a api.Attr) look {
	l := look{api.KColour: a.Colour}
	for kind, has := range [...]bool{api.KBold: a.Bold, api.KItalic: a.Italic, api.KUnder: a.Under, api.KStrike: a.Strike} {
		if has {
			l[kind] = 1
		}
	}
	return l
}

func (l look) attr() api.Attr {
	return api.Attr{
		Bold:   l[api.KBold] > 0,
		Italic: l[api.KItalic] > 0,
		Under:  l[api.KUnder] > 0,
		Strike: l[api.KStrike] > 0,
		Colour: l[api.KColour],
	}
}

// pile is signs one behind the other, and their runs.
type pile struct {
	s    strings.Builder
	runs []api.Run
}

// put lays one more sign down.
func (p *pile) put(sign string, l look) {
	p.s.WriteString(sign)
	a, n := l.attr(), len(p.runs)
	switch {
	case n == 0:
		p.runs = append(p.runs, api.Run{To: 1, Attr: a})
	case p.runs[n-1].Attr == a:
		p.runs[n-1].To++
	default:
		at := p.runs[n-1].To
		p.runs = append(p.runs, api.Run{From: at, To: at + 1, Attr: a})
	}
}

// text tells the text of these signs in normal form.
func (p *pile) text() (api.Text, api.Errno) {
	return style.Make(p.s.String(), p.runs)
}
