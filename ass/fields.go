package ass

import (
	"strconv"

	"surtitle/api"
	"surtitle/code"
	"surtitle/mark"
)

// field is one that is written of a cue.
type field interface {
	title() string        // by which a file names it
	say(c api.Cue) string // its part in the line of a cue that was kept
}

// heard is a field that tells something of a cue. All others are passed over.
type heard interface {
	field
	hear(part string, c *api.Cue) api.Errno // lays down what its part tells, or why that may not be
}

// The fields of a cue's own.
type (
	layer struct{}
	start struct{}
	end   struct{}
	name  struct{}
	text  struct{}
)

// fixed is a field that is the same for all cues.
type fixed struct{ called, always string }

// fields tells those that are written, in their order.
func fields() []field {
	return []field{
		layer{}, start{}, end{},
		fixed{"Style", "Default"},
		name{},
		fixed{"MarginL", "0"}, fixed{"MarginR", "0"}, fixed{"MarginV", "0"},
		fixed{"Effect", ""},
		text{},
	}
}

func (layer) title() string   { return "Layer" }
func (start) title() string   { return "Start" }
func (end) title() string     { return "End" }
func (name) title() string    { return "Name" }
func (text) title() string    { return "Text" }
func (f fixed) title() string { return f.called }

func (layer) say(c api.Cue) string { return strconv.Itoa(c.Lane) }
func (start) say(c api.Cue) string { return clock(c.Start) }
func (end) say(c api.Cue) string   { return clock(c.End) }
func (name) say(c api.Cue) string  { return c.Name }

func (text) say(c api.Cue) string {
	// The format can say what was kept: no error.
	s, _ := mark.Print(api.DBrace, mark.Marked{Text: c.Text, Side: c.Side})
	return s
}

func (f fixed) say(api.Cue) string { return f.always }

// clock writes a time that was kept: it lies on the format's grid.
func clock(t api.Ratio) string {
	s, _ := code.Clock(api.FAss, t)
	return s
}

func (layer) hear(part string, c *api.Cue) api.Errno {
	if len(part) != 1 || part[0] < '0' || part[0] >= '0'+api.MaxLanes {
		return api.ErrLane
	}
	c.Lane = int(part[0] - '0')
	return api.OK
}

func (start) hear(part string, c *api.Cue) api.Errno { return hearClock(part, &c.Start) }

func (end) hear(part string, c *api.Cue) api.Errno { return hearClock(part, &c.End) }

func hearClock(part string, t *api.Ratio) (e api.Errno) {
	if *t, e = code.ParseClock(api.FAss, part); e != api.OK {
		return api.ErrTime
	}
	return api.OK
}

func (name) hear(part string, c *api.Cue) (e api.Errno) {
	// It stands ahead of a comma, so it has none: the dialect can say it, if it is a name.
	c.Name, _, e = mark.Name(api.DBrace, part)
	return e
}

func (text) hear(part string, c *api.Cue) api.Errno {
	said, e := mark.Parse(api.DBrace, part)
	c.Side, c.Text = said.Side, said.Text
	return e
}
