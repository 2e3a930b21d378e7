package shell

import (
	"strings"

	"surtitle/api"
)

// Where a cutter is in a line.
const (
	between = iota // words
	plain          // in one without quotes
	quoted         // in one with quotes
	escaped        // there, behind a backslash
	high           // there, ahead of the first digit of a byte
	low            // ahead of the second one
	behind         // the quotes
	over           // behind the last word: what stands there says nothing
	wrong
)

const hexDigits = "0123456789abcdef"

// cutter takes a line to pieces, sign by sign.
type cutter struct {
	line  string
	words []string
	where int
	word  []byte // the one it is in, up to the byte from
	from  int
	first byte // of two digits
}

// take goes over the sign at a byte. All signs that say something have one byte; of the others, bad ones too, nothing is asked.
func (c *cutter) take(at int, r rune) {
	switch c.where {
	case between:
		c.open(at, r)
	case plain:
		c.goOn(at, r)
	case quoted:
		c.goOnInQuotes(at, r)
	case escaped:
		c.escape(at, r)
	case high, low:
		c.takeDigit(at, r)
	case behind:
		c.part(r)
	}
}

// end tells the words of the line.
func (c *cutter) end() ([]string, api.Errno) {
	c.take(len(c.line), ' ') // it parts as a blank does
	if c.where != between && c.where != over {
		return nil, api.ErrWord
	}
	return c.words, api.OK
}

// open goes over the first sign of a word, or over what parts them.
func (c *cutter) open(at int, r rune) {
	c.word, c.from = nil, at
	switch {
	case isBlank(r):
	case r == '#':
		c.where = over
	case r == '"':
		c.where, c.from = quoted, at+1
	default:
		c.where = plain
	}
}

func (c *cutter) goOn(at int, r rune) {
	switch {
	case isBlank(r):
		c.close(at)
		c.where = between
	case r == '"':
		c.where = wrong
	}
}

func (c *cutter) goOnInQuotes(at int, r rune) {
	switch r {
	case '"':
		c.close(at)
		c.where = behind
	case '\\':
		c.gather(at)
		c.where = escaped
	}
}

// part goes over the sign behind a quoted word.
func (c *cutter) part(r rune) {
	c.where = wrong
	if isBlank(r) {
		c.where = between
	}
}

// escape goes over the sign behind a backslash.
func (c *cutter) escape(at int, r rune) {
	switch r {
	case '\\', '"':
		c.mean(at, byte(r))
	case 'n':
		c.mean(at, '\n')
	case 't':
		c.mean(at, '\t')
	case 'x':
		c.where = high
	default:
		c.where = wrong
	}
}

func (c *cutter) takeDigit(at int, r rune) {
	digit := strings.IndexRune(hexDigits, r)
	switch {
	case digit < 0:
		c.where = wrong
	case c.where == high:
		c.first, c.where = byte(digit), low
	default:
		c.mean(at, c.first<<4|byte(digit))
	}
}

// mean lays down the byte that stands for what ends with the sign at a byte.
func (c *cutter) mean(at int, b byte) {
	c.word = append(c.word, b)
	c.where, c.from = quoted, at+1
}

// gather lays down what stands ahead of a byte, as it is.
func (c *cutter) gather(at int) {
	c.word = append(c.word, c.line[c.from:at]...)
}

// close ends a word ahead of a byte.
func (c *cutter) close(at int) {
	c.gather(at)
	c.words = append(c.words, string(c.word))
}

func isBlank(r rune) bool { return r == ' ' || r == '\t' }

// inQuotes tells how a sign of these bytes is written in a quoted word.
func inQuotes(g api.Sign, bytes string) string {
	switch {
	case g.Bad:
		return asByte(bytes[0])
	case g.Rune == '\\', g.Rune == '"':
		return `\` + bytes
	case g.Rune == '\n':
		return `\n`
	case g.Rune == '\t':
		return `\t`
	case g.Rune < ' ', g.Rune == 0x7F:
		return asByte(bytes[0])
	}
	return bytes
}

// asByte writes a byte by its two digits.
func asByte(b byte) string {
	return `\x` + hexDigits[b>>4:b>>4+1] + hexDigits[b&15:b&15+1]
}
