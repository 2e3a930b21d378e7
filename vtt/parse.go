package vtt

import (
	"strings"

	"surtitle/api"
	"surtitle/code"
	"surtitle/file"
	"surtitle/mark"
	"surtitle/utf"
)

// parser goes through a file line by line.
type parser struct {
	cues  []api.Cue // of the blocks that are whole
	wants int       // what the next line is to be
	open  api.Cue   // whose text is read
	text  []string  // the lines of that, so far
}

// What a line is to be.
const (
	theHead   = iota // the file's first one
	theGap           // its second one, or its end
	aFirst           // a block's first one, or an empty one ahead of it
	aNote            // one of a note, or the empty one behind it
	someTimes        // those of a cue
	someText         // a line of its text, or the empty one behind it
	kinds            // how many there are
)

// taker takes a line for one kind, or tells the line's fault. What it does not take goes to the next kind that is wanted.
type taker func(line file.Line) (taken bool, fault api.Fault)

// takers tells who takes a line of each kind.
func (p *parser) takers() [kinds]taker {
	return [...]taker{
		theHead:   p.takeHead,
		theGap:    p.takeGap,
		aFirst:    p.takeFirst,
		aNote:     p.takeNote,
		someTimes: p.takeTimes,
		someText:  p.takeText,
	}
}

// read goes through a file up to its first fault, which it tells.
func (p *parser) read(b []byte) api.Fault {
	by := p.takers()
	for line := range file.Lines(b) {
	again:
		// What an empty line ends stands ahead of it, and so does its fault.
		ends := p.wants == someText && line.S == ""
		if line.Long && !ends {
			return line.Fault(api.ErrLong, 1)
		}
		taken, fault := by[p.wants](line)
		if fault.Err != api.OK {
			return fault
		}
		if !taken {
			goto again
		}
	}
	return api.Fault{}
}

func (p *parser) takeHead(line file.Line) (bool, api.Fault) {
	if line.S != head {
		return false, line.Fault(api.ErrHead, 1)
	}
	p.wants = theGap
	return true, api.Fault{}
}

func (p *parser) takeGap(line file.Line) (bool, api.Fault) {
	if line.S != "" {
		return false, line.Fault(api.ErrHead, 1)
	}
	p.wants = aFirst
	return true, api.Fault{}
}

// takeFirst leaves a line of times to the next kind; others are no part of a cue.
func (p *parser) takeFirst(line file.Line) (bool, api.Fault) {
	const note = "NOTE"
	switch {
	case line.S == "":
	case line.S == note, strings.HasPrefix(line.S, note+" "):
		p.wants = aNote
	case strings.Contains(line.S, "-->"):
		p.wants = someTimes
		return false, api.Fault{}
	default:
		p.wants = someTimes
	}
	return true, api.Fault{}
}

func (p *parser) takeNote(line file.Line) (bool, api.Fault) {
	if line.S == "" {
		p.wants = aFirst
	}
	return true, api.Fault{}
}

// takeTimes begins a cue, if it may stand behind those ahead.
func (p *parser) takeTimes(line file.Line) (bool, api.Fault) {
	if line.S == "" {
		return false, line.Fault(api.ErrEnd, 1)
	}
	c, e, col := readTimes(line.S)
	if e == api.OK {
		e, col = file.Check(p.cues, c), 1
	}
	if e != api.OK {
		return false, line.Fault(e, col)
	}
	p.open, p.wants = c, someText
	return true, api.Fault{}
}

// readTimes tells the cue of a line of times; or why it is none, and at which sign.
func readTimes(s string) (c api.Cue, e api.Errno, col int) {
	first, rest, ok := strings.Cut(s, arrow)
	if !ok {
		return api.Cue{}, api.ErrLine, 1
	}
	second, _, _ := strings.Cut(rest, " ")
	if c.Start, e = code.ParseClock(api.FVtt, first); e != api.OK {
		return api.Cue{}, api.ErrTime, 1
	}
	col = utf.Count(first+arrow) + 1
	if c.End, e = code.ParseClock(api.FVtt, second); e != api.OK {
		return api.Cue{}, api.ErrTime, col
	}
	switch rest[len(second):] {
	case "":
	case high:
		c.Side = api.High
	default:
		return api.Cue{}, api.ErrLine, col + utf.Count(second)
	}
	return c, api.OK, 0
}

// takeText leaves the empty line that ends a text to the next kind.
func (p *parser) takeText(line file.Line) (bool, api.Fault) {
	if line.S != "" {
		p.text = append(p.text, line.S)
		return true, api.Fault{}
	}
	m, e := mark.Parse(api.DVoice, strings.Join(p.text, "\n"))
	if e != api.OK {
		return false, api.Fault{Err: e, Line: line.Number - len(p.text), Col: 1}
	}
	p.open.Name, p.open.Text = m.Name, m.Text
	p.cues = append(p.cues, p.open)
	p.text, p.wants = nil, aFirst
	return false, api.Fault{}
}
