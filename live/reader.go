package live

import (
	"surtitle/api"
	"surtitle/file"
)

// Reader takes a file's bytes in pieces to cues.
type Reader struct {
	format int
	bytes  int     // how many it got
	lines  int     // how many are whole
	line   []byte  // what it has of the next one
	isCR   bool    // whether the last byte is a CR: an LF behind it is of the same line end
	block  block   // the lines that are whole, behind the last empty one
	told   int     // how many cues
	last   api.Cue // the times of the last one of these
	ended  bool
	fault  api.Fault
}

func NewReader(format int) (*Reader, api.Errno) {
	if format != api.FSrt && format != api.FVtt {
		return nil, api.ErrKind
	}
	return &Reader{format: format}, api.OK
}

// Feed takes a piece: the cues that are whole then; End ends the file: the last ones.
func (r *Reader) Feed(b []byte) ([]api.Cue, api.Fault) {
	var cues []api.Cue
	for _, x := range b {
		if r.isOver() {
			break
		}
		cues = append(cues, r.take(x)...)
	}
	return cues, r.fault
}

func (r *Reader) End() ([]api.Cue, api.Fault) {
	var cues []api.Cue
	if len(r.line) > 0 { // never where it is over
		cues = r.endLine()
	}
	// The file's end parts as an empty line does.
	if !r.isOver() {
		cues = append(cues, r.endBlock()...)
	}
	r.ended = true
	return cues, r.fault
}

// isOver tells whether nothing counts that comes behind.
func (r *Reader) isOver() bool { return r.ended || r.fault.Err != api.OK }

// giveUp ends the reading at a fault: what it has of a block is of no use any more.
func (r *Reader) giveUp(f api.Fault) {
	r.fault = f
	r.line, r.block = nil, block{}
}

// take goes on by a byte.
func (r *Reader) take(x byte) []api.Cue {
	isEnd := x == '\n' || x == '\r'
	isRest := x == '\n' && r.isCR // of an end that was there with its CR
	r.isCR = x == '\r'
	r.bytes++
	switch {
	case r.bytes > api.MaxFile:
		return r.takeTooMany(isEnd && !isRest)
	case isRest:
	case isEnd:
		return r.endLine()
	default:
		r.line = append(r.line, x)
	}
	return nil
}

// takeTooMany gives up at the byte too many, in the line that is not whole; that byte may end it.
func (r *Reader) takeTooMany(isEnd bool) []api.Cue {
	here := r.lines + 1
	var cues []api.Cue
	// What an empty line ends stands ahead of it, and so does the fault of that.
	if isEnd && len(r.line) == 0 {
		cues = r.endBlock()
	}
	if r.fault.Err == api.OK || r.fault.Line == here {
		r.giveUp(api.Fault{Err: api.ErrLong, Line: here, Col: 1})
	}
	return cues
}

// endLine goes on by the line that is whole now.
func (r *Reader) endLine() []api.Cue {
	line := r.line
	r.line = nil
	r.lines++
	if len(line) == 0 || r.lines == 1 && string(line) == file.OrderMark {
		return r.endBlock()
	}
	if r.block.known != aNote {
		r.addLine(line)
	}
	return nil
}

// addLine lays a line into the block, and gives up at a fault that the line has whatever comes.
func (r *Reader) addLine(line []byte) {
	r.block.add(line)
	if r.block.known == aCue {
		return
	}
	cues, f := r.block.parse(r.format)
	switch {
	case f.Err == api.ErrEnd: // what lacks may come
	case f.Err != api.OK:
		r.giveUp(f)
	case len(cues) > 0:
		r.block.known = aCue
		r.checkTimes(cues[0])
	case r.block.ahead > 0: // no file's head, behind which no line may stand
		r.block.known, r.block.text = aNote, nil
	}
}

// checkTimes gives up, if a cue whose times are the last line may not stand behind those that were told.
func (r *Reader) checkTimes(c api.Cue) {
	if e := file.Behind(r.told, r.last, c); e != api.OK {
		r.giveUp(api.Fault{Err: e, Line: r.lines, Col: 1})
	}
}

// endBlock tells the cue of the block that ends ahead of this line, if it is one, or gives up at its fault.
func (r *Reader) endBlock() []api.Cue {
	b := r.block
	r.block = block{ahead: r.lines}
	// A file's beginning is read even where it has no bytes: a head may lack.
	if len(b.text) == 0 && b.ahead > 0 {
		return nil
	}
	cues, f := b.parse(r.format)
	if f.Err != api.OK {
		r.giveUp(f)
		return nil
	}
	for _, c := range cues {
		r.told++
		r.last = api.Cue{Start: c.Start, End: c.End}
	}
	return cues
}
