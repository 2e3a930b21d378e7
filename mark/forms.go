package mark

import (
	"strconv"
	"strings"

	"surtitle/api"
)

// letters names KBold, KItalic, KUnder and KStrike, in their order.
const letters = "bius"

// kindOf tells the kind that a letter names; 0: none.
func kindOf(letter byte) int {
	return strings.IndexByte(letters, letter) + 1
}

// tagName tells by what name a kind has tags; empty: it has none.
func tagName(dialect, kind int) string {
	switch {
	case dialect == api.DVoice && kind == api.KColour:
		return "c"
	case dialect == api.DVoice && kind == api.KStrike:
		return ""
	case kind == api.KColour:
		return "font"
	}
	return letters[kind-1 : kind]
}

// colourTag tells what stands ahead of a colour's digits, and behind them.
func colourTag(dialect int) (ahead, behind string) {
	if dialect == api.DVoice {
		return "<c.", ">"
	}
	return `<font color="#`, `">`
}

// tagForm reads a tag.
func tagForm(dialect int, s string) form {
	if !strings.HasPrefix(s, "<") {
		return form{}
	}
	ahead, behind := colourTag(dialect)
	if value, size := digits(s, ahead, behind); size > 0 {
		return form{size: size, does: opens, kind: api.KColour, worth: value + 1}
	}
	for kind := api.KBold; kind <= api.KColour; kind++ {
		name := tagName(dialect, kind)
		switch {
		case name == "":
		case strings.HasPrefix(s, "</"+name+">"):
			return form{size: len(name) + 3, does: closes, kind: kind}
		case kind != api.KColour && strings.HasPrefix(s, "<"+name+">"):
			return form{size: len(name) + 2, does: opens, kind: kind, worth: 1}
		}
	}
	return form{}
}

// voiceForm reads what DVoice has beside tags: a name, if it may stand here; a sign by its word.
func voiceForm(s string, first bool) form {
	if first {
		if f := nameForm(s); f.size > 0 {
			return f
		}
	}
	sign, size := wordAt(s)
	return form{size: size, sign: sign}
}

// nameForm reads a name.
func nameForm(s string) form {
	const ahead = "<v "
	end := strings.IndexByte(s, '>')
	if end < 0 || !strings.HasPrefix(s, ahead) {
		return form{}
	}
	name := withoutWords(s[len(ahead):end])
	if name == "" || !isName(name) {
		return form{}
	}
	return form{size: end + 1, does: names, name: name}
}

// word is one by which DVoice says a sign.
type word struct {
	text, sign string
}

var words = [...]word{
	{"&lt;", "<"}, {"&gt;", ">"}, {"&amp;", "&"}, {"&nbsp;", "\u00a0"}, {"&lrm;", "\u200e"}, {"&rlm;", "\u200f"},
}

// wordAt tells the sign whose word stands at the front of s, and how long that is; 0: none.
func wordAt(s string) (string, int) {
	for _, w := range words {
		if strings.HasPrefix(s, w.text) {
			return w.sign, len(w.text)
		}
	}
	return "", 0
}

// withoutWords tells a text in which words are the signs for which they stand.
func withoutWords(s string) string {
	var b strings.Builder
	for s != "" {
		sign, size := wordAt(s)
		if size == 0 {
			sign, size = s[:1], 1
		}
		b.WriteString(sign)
		s = s[size:]
	}
	return b.String()
}

// lineForm reads one of DPipe: a line's end; how the line looks, if that may stand here.
func lineForm(s string, l look, fresh bool) form {
	if strings.HasPrefix(s, "|") {
		return form{size: 1, sign: "\n", does: looks}
	}
	if !fresh {
		return form{}
	}
	if value, size := digits(s, "{c:$", "}"); size > 0 {
		l[api.KColour] = turned(value) + 1
		return form{size: size, does: looks, look: l}
	}
	return letterForm(s, l)
}

// letterForm reads the letters of a line.
func letterForm(s string, l look) form {
	const ahead = "{y:"
	if !strings.HasPrefix(s, ahead) {
		return form{}
	}
	f := form{size: len(ahead), does: looks, look: l}
next:
	if len(s) < f.size+2 || kindOf(s[f.size]) == 0 {
		return form{}
	}
	f.look[kindOf(s[f.size])] = 1
	f.size += 2
	switch s[f.size-1] {
	case ',':
		goto next
	case '}':
		return f
	}
	return form{}
}

// orderForm reads one of DBrace: a line's end, or orders.
func orderForm(s string, l look, first bool) form {
	const end = `\N`
	if strings.HasPrefix(s, end) {
		return form{size: len(end), sign: "\n"}
	}
	if !strings.HasPrefix(s, "{") {
		return form{}
	}
	f := form{size: 1, does: looks, look: l}
	var size int
next:
	size = f.order(s[f.size:], first)
	if size == 0 {
		return form{}
	}
	f.size += size
	if !strings.HasPrefix(s[f.size:], "}") {
		goto next
	}
	f.size++
	return f
}

// order does what the order at the front of s says, and tells how long it is; 0: there is none.
func (f *form) order(s string, first bool) int {
	const high, plain = `\an8`, `\c`
	if first && strings.HasPrefix(s, high) {
		f.side = api.High
		return len(high)
	}
	if value, size := digits(s, `\c&H`, "&"); size > 0 {
		f.look[api.KColour] = turned(value) + 1
		return size
	}
	if strings.HasPrefix(s, plain) {
		f.look[api.KColour] = 0
		return len(plain)
	}
	if len(s) < 3 || s[0] != '\\' || kindOf(s[1]) == 0 || s[2] != '0' && s[2] != '1' {
		return 0
	}
	f.look[kindOf(s[1])] = int(s[2] - '0')
	return 3
}

// digits tells the number of the six digits that stand between two texts at the front of s, and how long all that is; 0: it does not stand there.
func digits(s, ahead, behind string) (value, size int) {
	from := len(ahead)
	to := from + 6
	size = to + len(behind)
	if len(s) < size || s[:from] != ahead || s[to:size] != behind {
		return 0, 0
	}
	n, err := strconv.ParseUint(s[from:to], 16, 32)
	if err != nil {
		return 0, 0
	}
	return int(n), size
}

// turned tells a colour with red and blue in each other's places.
func turned(value int) int {
	return value&0xFF<<16 | value&0xFF00 | value>>16
}

// smallDigits and greatDigits tell a colour by six digits.
func smallDigits(value int) string {
	// A one ahead keeps the noughts behind it.
	return strconv.FormatInt(int64(value)|1<<24, 16)[1:]
}

func greatDigits(value int) string {
	return strings.ToUpper(smallDigits(value))
}
