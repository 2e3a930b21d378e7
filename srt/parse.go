package srt

import (
	"strings"

	"surtitle/api"
	"surtitle/code"
	"surtitle/cue"
	"surtitle/mark"
	"surtitle/utf"
)

// orderMark is the byte order mark with which a file may begin.
const orderMark = "\ufeff"

// mostDigits is how many digits a cue's number has at most.
const mostDigits = 9

// parser goes through a file line by line, and gives up at the first fault by a panic with it.
type parser struct {
	cues  []api.Cue // of the blocks that are whole
	line  int       // the number of the line that is read, from 1 on
	wants int       // what that line is to be, if it is not empty
	open  api.Cue   // whose text is read
	text  []string  // the lines of that, so far
}

// What a line is to be.
const (
	aNumber = iota // a block's first one
	someTimes
	someText
)

// read goes through a file of up to one byte too many; the fault at which it gave up, if it did.
func (p *parser) read(s string) (fault api.Fault) {
	defer func() {
		if why := recover(); why != nil {
			fault = why.(api.Fault)
		}
	}()
	tooMany := len(s) > api.MaxFile
	for at, line := range utf.Lines(s) {
		p.line++
		long := tooMany && at+len(line) >= api.MaxFile
		if at == 0 {
			line = strings.TrimPrefix(line, orderMark)
		}
		p.take(line, long)
	}
	p.line++
	if tooMany {
		// It is in no line: an LF whose CR is the last byte that may be. It counts to the line behind, to which the block, if one is open, goes on.
		giveUp(api.ErrLong, p.line, 1)
	}
	// The file's end parts as an empty line would that stood there.
	p.take("", false)
	return api.Fault{}
}

// giveUp ends the reading at a fault.
func giveUp(e api.Errno, line, col int) {
	panic(api.Fault{Err: e, Line: line, Col: col})
}

// take goes on by a line; long: the byte too many stands in it.
func (p *parser) take(line string, long bool) {
	// What an empty line ends stands ahead of it, and so does its fault.
	if line == "" && p.wants == someText {
		p.endCue()
	}
	switch {
	case long:
		giveUp(api.ErrLong, p.line, 1)
	case line == "" && p.wants == someTimes:
		giveUp(api.ErrEnd, p.line, 1)
	case line == "":
	case p.wants == aNumber:
		p.takeNumber(line)
	case p.wants == someTimes:
		p.takeTimes(line)
	default:
		p.text = append(p.text, line)
	}
}

// takeNumber begins a block.
func (p *parser) takeNumber(line string) {
	if !isNumber(line) {
		giveUp(api.ErrCount, p.line, 1)
	}
	p.wants = someTimes
}

// isNumber tells whether a line is the number of a cue.
func isNumber(line string) bool {
	digits := 0
	for _, r := range line {
		if r < '0' || r > '9' {
			return false
		}
		digits++
	}
	return digits >= 1 && digits <= mostDigits
}

// takeTimes begins a cue, if it may stand behind those ahead.
func (p *parser) takeTimes(line string) {
	first, rest, ok := strings.Cut(line, arrow)
	if !ok {
		giveUp(api.ErrLine, p.line, 1)
	}
	second, _, _ := strings.Cut(rest, " ")
	start := p.readClock(first, 1)
	end := p.readClock(second, utf.Count(first+arrow)+1)
	p.open = api.Cue{Start: start, End: end}
	if e := p.checkTimes(); e != api.OK {
		giveUp(e, p.line, 1)
	}
	p.wants = someText
}

// readClock reads a time that stands in the line from a sign on.
func (p *parser) readClock(s string, col int) api.Ratio {
	t, e := code.ParseClock(api.FSrt, s)
	if e != api.OK {
		giveUp(api.ErrTime, p.line, col)
	}
	return t
}

// checkTimes tells whether the cue that was begun may stand behind those ahead.
func (p *parser) checkTimes() api.Errno {
	if e := cue.Check(p.open); e != api.OK {
		return e
	}
	n := len(p.cues)
	switch {
	case n > 0 && cue.Compare(p.cues[n-1], p.open) > 0:
		return api.ErrOrder
	case n == api.MaxCues:
		return api.ErrMany
	}
	return api.OK
}

// endCue reads the text that ends ahead of this line: with it the cue is whole.
func (p *parser) endCue() {
	m, e := mark.Parse(api.DAngle, strings.Join(p.text, "\n"))
	if e != api.OK {
		giveUp(e, p.line-len(p.text), 1)
	}
	p.open.Text = m.Text
	p.cues = append(p.cues, p.open)
	p.text, p.wants = nil, aNumber
}
