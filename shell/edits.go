package shell

import (
	"surtitle/api"
	"surtitle/edit"
)

// edit does an edit at the cue that a line's first number tells.
func (p *player) edit(a args, e api.Edit) ([]string, error) {
	e.Cue = a.numbers[0]
	return p.change(a, func(log *edit.Log) api.Errno { return log.Do(e) })
}

func (p *player) lay(a args) ([]string, error) {
	c := api.Cue{Start: a.ratios[0], End: a.ratios[1], Text: api.Text{S: a.text}}
	return p.edit(a, api.Edit{Op: api.ELay, New: c})
}

func (p *player) take(a args) ([]string, error) {
	return p.edit(a, api.Edit{Op: api.ETake})
}

func (p *player) times(a args) ([]string, error) {
	return p.edit(a, api.Edit{Op: api.ETimes, Start: a.ratios[0], End: a.ratios[1]})
}

func (p *player) text(a args) ([]string, error) {
	return p.edit(a, api.Edit{Op: api.EText, Unit: a.unit, From: a.numbers[1], To: a.numbers[2], Text: api.Text{S: a.text}})
}

func (p *player) style(a args) ([]string, error) {
	return p.edit(a, api.Edit{Op: api.EStyle, Unit: a.unit, From: a.numbers[1], To: a.numbers[2], Kind: a.kind, Value: a.numbers[3]})
}

func (p *player) shift(a args) ([]string, error) {
	return p.edit(a, api.Edit{Op: api.EShift, To: a.numbers[1], Start: a.ratios[0]})
}

func (p *player) split(a args) ([]string, error) {
	return p.edit(a, api.Edit{Op: api.ESplit, Unit: a.unit, From: a.numbers[1], Start: a.ratios[0]})
}

func (p *player) join(a args) ([]string, error) {
	return p.edit(a, api.Edit{Op: api.EJoin})
}

func (p *player) place(a args) ([]string, error) {
	return p.edit(a, api.Edit{Op: api.EPlace, Lane: a.numbers[1], Side: a.numbers[2]})
}

func (p *player) rename(a args) ([]string, error) {
	return p.edit(a, api.Edit{Op: api.ERename, Name: a.text})
}

func (p *player) undo(a args) ([]string, error) { return p.change(a, (*edit.Log).Undo) }

func (p *player) redo(a args) ([]string, error) { return p.change(a, (*edit.Log).Redo) }
