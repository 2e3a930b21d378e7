package frm

import (
	"strings"

	"surtitle/api"
	"surtitle/code"
	"surtitle/file"
	"surtitle/mark"
)

// mostDigits is how many digits a frame's number has at most.
const mostDigits = 9

// parser goes through a file line by line.
type parser struct {
	rate api.Rate
	cues []api.Cue // of the lines ahead
}

// number is one of a line, and the sign at which it begins.
type number struct {
	frame int64
	col   int
}

// What the parts of a cue's line say.
type (
	start number // the frame at which it begins
	end   number // the one at which it ends
	words struct {
		text string
		col  int // the sign at which that begins
	}
	flaw struct{} // that the line is no cue's
)

// read goes through a file up to its first fault, which it tells.
func (p *parser) read(b []byte) api.Fault {
	for line := range file.Lines(b) {
		if e, col := p.take(line); e != api.OK {
			return line.Fault(e, col)
		}
	}
	return api.Fault{}
}

// take goes on by a line; or tells its fault, and at which sign.
func (p *parser) take(line file.Line) (e api.Errno, col int) {
	switch {
	case line.Long:
		return api.ErrLong, 1
	case line.Number == 1:
		return p.takeHead(line.S)
	case line.S == "":
		return api.OK, 0
	}
	return p.takeCue(line.S)
}

func (p *parser) takeHead(line string) (e api.Errno, col int) {
	rate, ok := strings.CutPrefix(line, head)
	if !ok {
		return api.ErrHead, 1
	}
	if p.rate, e = code.Rate(rate); e != api.OK {
		return api.ErrRate, len(head) + 1
	}
	return api.OK, 0
}

func (p *parser) takeCue(line string) (e api.Errno, col int) {
	var c api.Cue
	for _, part := range partsOf(line) {
		if e, col = p.hear(part, &c); e != api.OK {
			return e, col
		}
	}
	p.cues = append(p.cues, c)
	return api.OK, 0
}

// hear lays down in a cue what a part of its line says; or tells why that may not be, and at which sign.
func (p *parser) hear(part any, c *api.Cue) (e api.Errno, col int) {
	switch x := part.(type) {
	case start:
		c.Start, e = code.Time(p.rate, x.frame)
		return e, x.col
	case end:
		if c.End, e = code.Time(p.rate, x.frame); e != api.OK {
			return e, x.col
		}
		// Both times are there now: their faults come ahead of the text's.
		return file.Check(p.cues, *c), 1
	case words:
		said, e := mark.Parse(api.DPipe, x.text)
		c.Text = said.Text
		return e, x.col
	default: // a flaw
		return api.ErrLine, 1
	}
}

// partsOf tells the parts of a line that should be a cue's.
func partsOf(line string) []any {
	numbers, rest := numbersOf(line)
	if len(numbers) < 2 {
		return []any{flaw{}}
	}
	// A digit, a brace is a sign of one byte: so far places in bytes are places of signs.
	col := len(line) - len(rest) + 1
	return []any{start(numbers[0]), end(numbers[1]), words{rest, col}}
}

// numbersOf tells the numbers in braces with which a line begins, at most two, and what stands behind them.
func numbersOf(line string) (l []number, rest string) {
	rest = line
numbers:
	for len(l) < 2 && strings.HasPrefix(rest, "{") {
		x := number{col: len(line) - len(rest) + 2}
		for i, r := range rest[1:] {
			switch {
			case r >= '0' && r <= '9' && i < mostDigits:
				x.frame = x.frame*10 + int64(r-'0')
			case r == '}' && i > 0:
				l, rest = append(l, x), rest[i+2:]
				continue numbers
			default:
				break numbers
			}
		}
		// The line ended within the braces.
		break numbers
	}
	return l, rest
}
