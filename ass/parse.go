package ass

import (
	"strings"

	"surtitle/api"
	"surtitle/file"
	"surtitle/utf"
)

// parser goes through a file line by line.
type parser struct {
	section string         // the line with which the section began that is read; none ahead of the first one
	places  map[string]int // of the fields, by their titles: which part of a cue's line is whose; none till they are told
	cues    []api.Cue      // of the lines ahead
}

// read goes through a file up to its first fault, which it tells.
func (p *parser) read(b []byte) api.Fault {
	var behind file.Line // in the end the empty one behind the file's own
	for line := range file.Lines(b) {
		if e, col := p.take(line); e != api.OK {
			return line.Fault(e, col)
		}
		behind = line
	}
	switch {
	case p.section == "":
		return behind.Fault(api.ErrHead, 1)
	case p.places == nil:
		return behind.Fault(api.ErrEnd, 1)
	}
	return api.Fault{}
}

// take goes on by a line; or tells its fault, and at which sign.
func (p *parser) take(line file.Line) (e api.Errno, col int) {
	switch {
	case line.Long:
		return api.ErrLong, 1
	case line.S == "":
	case p.section == "" && line.S != info:
		return api.ErrHead, 1
	case strings.HasPrefix(line.S, "["):
		p.section = line.S
	case p.section == events:
		return p.takeEvent(line.S)
	}
	return api.OK, 0
}

// takeEvent takes a line that is not empty, in a section that counts.
func (p *parser) takeEvent(line string) (e api.Errno, col int) {
	switch {
	case strings.HasPrefix(line, ";"), strings.HasPrefix(line, "Comment:"):
		return api.OK, 0
	case strings.HasPrefix(line, format):
		return p.takeFields(line[len(format):]), 1
	case strings.HasPrefix(line, dialogue):
		return p.takeCue(line)
	}
	return api.ErrLine, 1
}

// takeFields takes the titles of the fields, with commas between them.
func (p *parser) takeFields(titles string) api.Errno {
	if p.places != nil {
		return api.ErrLine
	}
	l, places := strings.Split(titles, ","), map[string]int{}
	for at, s := range l {
		s = strings.Trim(s, " ")
		if _, twice := places[s]; twice {
			return api.ErrLine
		}
		places[s] = at
	}
	_, begins := places[start{}.title()]
	_, ends := places[end{}.title()]
	last, says := places[text{}.title()]
	if !begins || !ends || !says || last != len(l)-1 {
		return api.ErrLine
	}
	p.places = places
	return api.OK
}

func (p *parser) takeCue(line string) (e api.Errno, col int) {
	parts := strings.SplitN(line[len(dialogue):], ",", len(p.places))
	if p.places == nil || len(parts) < len(p.places) {
		return api.ErrLine, 1
	}
	var c api.Cue
	e, col = p.hear(parts, &c, start{}, end{})
	if e == api.OK {
		e, col = file.Check(p.cues, c), 1
	}
	if e == api.OK {
		e, col = p.hear(parts, &c, layer{}, name{}, text{})
	}
	if e == api.OK {
		p.cues = append(p.cues, c)
	}
	return e, col
}

// hear lays down in a cue what its parts tell by these fields, as far as the file has them; or tells the first error, and at which sign of the line.
func (p *parser) hear(parts []string, c *api.Cue, l ...heard) (e api.Errno, col int) {
	for _, f := range l {
		at, ok := p.places[f.title()]
		if !ok {
			continue
		}
		if e := f.hear(parts[at], c); e != api.OK {
			return e, begin(parts, at)
		}
	}
	return api.OK, 0
}

// begin tells the sign of a cue's line at which a part begins.
func begin(parts []string, at int) int {
	col := len(dialogue) + 1
	for _, part := range parts[:at] {
		col += utf.Count(part) + len(",")
	}
	return col
}
