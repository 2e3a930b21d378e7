package shell

import (
	"strings"

	"surtitle/api"
	"surtitle/edit"
)

// maxCues is how many a document of a script has at most.
const maxCues = 500

// player plays lines: each hangs on the documents that those ahead made.
type player struct {
	docs     map[string]held
	commands map[string]command
}

// held is a document that a script has, and how many cues that is: it is asked more often than it is changed.
type held struct {
	log  *edit.Log
	many int
}

// hold takes a document's log in, if it may be one of a script.
func hold(log *edit.Log) (held, error) {
	many := len(log.Doc().Cues)
	if many > maxCues {
		return held{}, api.ErrMany
	}
	return held{log, many}, nil
}

// command is the forms that the words behind it may have, with `|` between, and what it does and tells.
type command struct {
	forms string
	do    func(args) ([]string, error)
}

func newPlayer() *player {
	p := &player{docs: map[string]held{}}
	p.commands = p.table()
	return p
}

// table tells the commands. In a form D is a document, E one that is set, N a number, A a ratio, T bytes.
func (p *player) table() map[string]command {
	return map[string]command{
		"new":      {"E", p.create},
		"read":     {"E format T", p.read},
		"write":    {"D format|D frm rate", p.write},
		"convert":  {"D format format rate", p.convert},
		"keep":     {"D E format", p.keep},
		"lay":      {"D N A A T", p.lay},
		"take":     {"D N", p.take},
		"times":    {"D N A A", p.times},
		"text":     {"D N unit N N T", p.text},
		"style":    {"D N unit N N kind N", p.style},
		"shift":    {"D N N A", p.shift},
		"split":    {"D N unit N A", p.split},
		"join":     {"D N", p.join},
		"place":    {"D N N N", p.place},
		"name":     {"D N T", p.rename},
		"undo":     {"D", p.undo},
		"redo":     {"D", p.redo},
		"cues":     {"D", p.cues},
		"cue":      {"D N", p.cue},
		"active":   {"D A", p.active},
		"segments": {"D", p.segments},
		"retime":   {"D E A A ..", p.retime},
		"move":     {"D E A", p.move},
		"trim":     {"D E", p.trim},
		"stack":    {"D E", p.stack},
		"lanes":    {"D E", p.lanes},
		"merge":    {"D D E", p.merge},
		"apart":    {"D E E", p.apart},
		"pairs":    {"D D", p.pairs},
		"wrap":     {"D N N", p.wrap},
		"rows":     {"D N N", p.rows},
		"fast":     {"D A", p.fast},
		"fit":      {"D E A", p.fit},
		"same":     {"D D", p.same},
		"docs":     {"", p.list},
	}
}

// play does what a line says, and tells the answer.
func (p *player) play(line string) string {
	words, e := Words(line)
	if e != api.OK {
		return e.Error()
	}
	if len(words) == 0 {
		return ""
	}
	told, err := p.do(words[0], words[1:])
	if err != nil {
		return err.Error()
	}
	answer := strings.Join(append([]string{"ok"}, told...), " ")
	if len(answer) > api.MaxAnswer {
		return tooLong
	}
	return answer
}

// do does a command; what its error says is the answer.
func (p *player) do(name string, words []string) ([]string, error) {
	c, ok := p.commands[name]
	if !ok {
		return nil, api.ErrWord
	}
	for form := range strings.SplitSeq(c.forms, "|") {
		if a, ok := argsOf(form, words); ok {
			if !p.has(a.asked) {
				return nil, api.ErrNone
			}
			return c.do(a)
		}
	}
	return nil, api.ErrWord
}

// has tells whether there are documents of all these names.
func (p *player) has(names []string) bool {
	for _, name := range names {
		if _, ok := p.docs[name]; !ok {
			return false
		}
	}
	return true
}

// doc tells one of the documents that a line asks for.
func (p *player) doc(a args, which int) api.Doc {
	return p.docs[a.asked[which]].log.Doc()
}

// set makes documents of the names that a line tells: all of them, or none.
func (p *player) set(a args, docs ...api.Doc) error {
	var all []held
	for _, d := range docs {
		log, err := edit.New(d)
		if err != nil {
			return err
		}
		h, err := hold(log)
		if err != nil {
			return err
		}
		all = append(all, h)
	}
	for i, h := range all {
		p.docs[a.made[i]] = h
	}
	return nil
}

// change does what turn does in a document's log, unless that is refused.
func (p *player) change(a args, turn func(*edit.Log) api.Errno) ([]string, error) {
	name := a.asked[0]
	// Whether there are too many cues shows only behind: it is done in a log apart.
	log := p.docs[name].log.Twin()
	if e := turn(log); e != api.OK {
		return nil, e
	}
	h, err := hold(log)
	if err != nil {
		return nil, err
	}
	p.docs[name] = h
	return nil, nil
}
