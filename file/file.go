// Package file: what the formats have in common: the lines of a file, and the times of its cues.
package file

import (
	"iter"
	"strings"

	"surtitle/api"
	"surtitle/cue"
	"surtitle/utf"
)

// OrderMark is the byte order mark with which a file may begin.
const OrderMark = "\ufeff"

// Line is one of a file.
type Line struct {
	Number int    // from 1 on
	S      string // without its end
	Long   bool   // the byte behind the first MaxFile ones stands in it
}

// Fault is one at a sign of the line.
func (l Line) Fault(e api.Errno, col int) api.Fault {
	return api.Fault{Err: e, Line: l.Number, Col: col}
}

// Lines goes over those that utf.Lines tells of a file, without its byte order mark, and an empty one behind them: the file's end parts as that would. A file that is too long ends with the line that is Long.
func Lines(b []byte) iter.Seq[Line] {
	// One byte behind the bound says that there are too many; those behind it say nothing more.
	s := string(b[:min(len(b), api.MaxFile+1)])
	return func(yield func(Line) bool) {
		n, tooMany := 0, len(s) > api.MaxFile
		for at, line := range utf.Lines(s) {
			n++
			long := tooMany && at+len(line) >= api.MaxFile
			if at == 0 {
				line = strings.TrimPrefix(line, OrderMark)
			}
			if !yield(Line{Number: n, S: line, Long: long}) || long {
				return
			}
		}
		last := Line{Number: n + 1}
		if tooMany {
			// It is in no line: an LF whose CR is the last byte that may be. It counts to the line behind, which so is not empty.
			last.S, last.Long = "\n", true
		}
		yield(last)
	}
}

// Check tells whether a cue of right times may stand behind those ahead of it: ErrBack, ErrOrder, ErrMany.
func Check(ahead []api.Cue, c api.Cue) api.Errno {
	if e := cue.Check(c); e != api.OK {
		return e
	}
	n := len(ahead)
	if n == 0 {
		return api.OK
	}
	return Behind(n, ahead[n-1], c)
}

// Behind tells whether a right cue may stand behind so many, of which this is the last: ErrOrder, ErrMany.
func Behind(many int, last, c api.Cue) api.Errno {
	switch {
	case many > 0 && cue.Compare(last, c) > 0:
		return api.ErrOrder
	case many >= api.MaxCues:
		return api.ErrMany
	}
	return api.OK
}
