package mark

import (
	"strconv"
	"strings"

	"surtitle/api"
	"surtitle/style"
	"surtitle/utf"
)

// inTags writes by tags, each closed within those that were open ahead of it.
func inTags(dialect int, m Marked) string {
	var b strings.Builder
	if m.Name != "" {
		b.WriteString("<v " + inWords(m.Name) + ">")
	}
	var was look
	for g, a := range style.Signs(m.Text) {
		is := lookOf(a)
		writeTags(&b, dialect, was, is)
		part := m.Text.S[g.At : g.At+g.Len]
		if dialect == api.DVoice {
			part = inWords(part)
		}
		b.WriteString(part)
		was = is
	}
	writeTags(&b, dialect, was, look{})
	return b.String()
}

// writeTags writes the tags between two signs.
func writeTags(b *strings.Builder, dialect int, was, is look) {
	first := api.KBold
	for first <= api.KColour && was[first] == is[first] {
		first++
	}
	for kind := api.KColour; kind >= first; kind-- {
		if was[kind] > 0 {
			b.WriteString("</" + tagName(dialect, kind) + ">")
		}
	}
	for kind := first; kind <= api.KColour; kind++ {
		if is[kind] > 0 {
			b.WriteString(opener(dialect, kind, is[kind]))
		}
	}
}

// opener tells the tag that opens a kind.
func opener(dialect, kind, worth int) string {
	if kind == api.KColour {
		ahead, behind := colourTag(dialect)
		return ahead + smallDigits(worth-1) + behind
	}
	return "<" + tagName(dialect, kind) + ">"
}

// inWords tells a text in which the signs that would begin or end a form are said by words.
func inWords(s string) string {
	var b strings.Builder
	for g := range utf.Signs(s) {
		switch g.Rune {
		case '<':
			b.WriteString("&lt;")
		case '>':
			b.WriteString("&gt;")
		case '&':
			b.WriteString("&amp;")
		default:
			b.WriteString(s[g.At : g.At+g.Len])
		}
	}
	return b.String()
}

// inLines writes by lines that look alike from end to end.
func inLines(t api.Text) string {
	var b strings.Builder
	fresh := true
	for g, a := range style.Signs(t) {
		if fresh {
			writeLineForms(&b, lookOf(a))
		}
		fresh = g.Rune == '\n'
		if fresh {
			b.WriteString("|")
		} else {
			b.WriteString(t.S[g.At : g.At+g.Len])
		}
	}
	return b.String()
}

// writeLineForms writes how a line looks.
func writeLineForms(b *strings.Builder, l look) {
	var on []string
	for kind := api.KBold; kind <= api.KStrike; kind++ {
		if l[kind] > 0 {
			on = append(on, letters[kind-1:kind])
		}
	}
	if len(on) > 0 {
		b.WriteString("{y:" + strings.Join(on, ",") + "}")
	}
	if colour := l[api.KColour]; colour > 0 {
		b.WriteString("{c:$" + greatDigits(turned(colour-1)) + "}")
	}
}

// inOrders writes by orders where something is to look otherwise.
func inOrders(m Marked) string {
	var b strings.Builder
	orders := ""
	if m.Side == api.High {
		orders = `\an8`
	}
	var was look
	for g, a := range style.Signs(m.Text) {
		is := lookOf(a)
		writeBraced(&b, orders+ordersOf(was, is))
		if g.Rune == '\n' {
			b.WriteString(`\N`)
		} else {
			b.WriteString(m.Text.S[g.At : g.At+g.Len])
		}
		orders, was = "", is
	}
	// Of a text without signs the side is still to be said.
	writeBraced(&b, orders)
	return b.String()
}

// writeBraced writes a form of orders, if there are some.
func writeBraced(b *strings.Builder, orders string) {
	if orders != "" {
		b.WriteString("{" + orders + "}")
	}
}

// ordersOf tells the orders between two signs.
func ordersOf(was, is look) string {
	s := ""
	for kind := api.KBold; kind <= api.KStrike; kind++ {
		if was[kind] != is[kind] {
			s += `\` + letters[kind-1:kind] + strconv.Itoa(is[kind])
		}
	}
	switch colour := is[api.KColour]; {
	case colour == was[api.KColour]:
	case colour == 0:
		s += `\c`
	default:
		s += `\c&H` + greatDigits(turned(colour-1)) + "&"
	}
	return s
}
