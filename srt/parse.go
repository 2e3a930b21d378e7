package srt

import (
	"strings"

	"surtitle/api"
	"surtitle/code"
	"surtitle/file"
	"surtitle/mark"
	"surtitle/utf"
)

// mostDigits is how many digits a cue's number has at most.
const mostDigits = 9

// parser goes through a file line by line, and gives up at the first fault by a panic with it.
type parser struct {
	cues  []api.Cue // of the blocks that are whole
	line  file.Line // that is read
	wants int       // what it is to be, if it is not empty
	open  api.Cue   // whose text is read
	text  []string  // the lines of that, so far
}

// What a line is to be.
const (
	aNumber = iota // a block's first one
	someTimes
	someText
)

// read goes through a file; the fault at which it gave up, if it did.
func (p *parser) read(b []byte) (fault api.Fault) {
	defer func() {
		if why := recover(); why != nil {
			fault = why.(api.Fault)
		}
	}()
	for p.line = range file.Lines(b) {
		p.take()
	}
	return api.Fault{}
}

// giveUp ends the reading at a fault in the line that is read.
func (p *parser) giveUp(e api.Errno, col int) {
	panic(p.line.Fault(e, col))
}

// take goes on by the line that is read.
func (p *parser) take() {
	empty := p.line.S == ""
	// What an empty line ends stands ahead of it, and so does its fault.
	if empty && p.wants == someText {
		p.endCue()
	}
	switch {
	case p.line.Long:
		p.giveUp(api.ErrLong, 1)
	case empty && p.wants == someTimes:
		p.giveUp(api.ErrEnd, 1)
	case empty:
	case p.wants == aNumber:
		p.takeNumber()
	case p.wants == someTimes:
		p.takeTimes()
	default:
		p.text = append(p.text, p.line.S)
	}
}

// takeNumber begins a block.
func (p *parser) takeNumber() {
	if !isNumber(p.line.S) {
		p.giveUp(api.ErrCount, 1)
	}
	p.wants = someTimes
}

// isNumber tells whether a line is the number of a cue.
func isNumber(line string) bool {
	digits := 0
	for _, r := range line {
		if r < '0' || r > '9' {
			return false
		}
		digits++
	}
	return digits >= 1 && digits <= mostDigits
}

// takeTimes begins a cue, if it may stand behind those ahead.
func (p *parser) takeTimes() {
	first, rest, ok := strings.Cut(p.line.S, arrow)
	if !ok {
		p.giveUp(api.ErrLine, 1)
	}
	second, _, _ := strings.Cut(rest, " ")
	start := p.readClock(first, 1)
	end := p.readClock(second, utf.Count(first+arrow)+1)
	p.open = api.Cue{Start: start, End: end}
	if e := file.Check(p.cues, p.open); e != api.OK {
		p.giveUp(e, 1)
	}
	p.wants = someText
}

// readClock reads a time that stands in the line from a sign on.
func (p *parser) readClock(s string, col int) api.Ratio {
	t, e := code.ParseClock(api.FSrt, s)
	if e != api.OK {
		p.giveUp(api.ErrTime, col)
	}
	return t
}

// endCue reads the text that ends ahead of this line: with it the cue is whole.
func (p *parser) endCue() {
	m, e := mark.Parse(api.DAngle, strings.Join(p.text, "\n"))
	if e != api.OK {
		panic(api.Fault{Err: e, Line: p.line.Number - len(p.text), Col: 1})
	}
	p.open.Text = m.Text
	p.cues = append(p.cues, p.open)
	p.text, p.wants = nil, aNumber
}
