package live

import (
	"strings"

	"surtitle/api"
	"surtitle/srt"
	"surtitle/vtt"
)

// block is a row of lines that are not empty; no format looks from one into another, but for the order of cues.
type block struct {
	ahead int    // how many lines stand ahead of it
	text  []byte // its lines, with a line feed between two
	known int    // what it is, by its lines so far
}

// What is known of a block.
const (
	nothing = iota // the next line may be one that counts by itself
	aCue           // its times are right: what comes behind them is its text
	aNote          // no line of it counts, whatever comes
)

// add lays a line behind those that it has.
func (b *block) add(line []byte) {
	if len(b.text) > 0 {
		b.text = append(b.text, '\n')
	}
	b.text = append(b.text, line...)
}

// parse reads its lines so far as a file of their own: their cue, if they are one, and their fault, at its line in the whole file.
func (b *block) parse(format int) ([]api.Cue, api.Fault) {
	front := b.front(format)
	d, f := parseFile(format, append([]byte(front), b.text...))
	if f.Err != api.OK {
		f.Line += b.ahead - strings.Count(front, "\n")
	}
	return d.Cues, f
}

// front tells what the block's own file begins with. In the whole file no fewer bytes stand ahead of the block: where that is not too long, its own one isn't.
func (b *block) front(format int) string {
	switch {
	case b.ahead == 0:
		return ""
	case format == api.FVtt:
		return "WEBVTT\n\n"
	}
	// A byte order mark counts as one at a file's beginning alone.
	return "\n"
}

func parseFile(format int, b []byte) (api.Doc, api.Fault) {
	if format == api.FVtt {
		return vtt.Parse(b)
	}
	return srt.Parse(b)
}
