package shell

import (
	"strconv"

	"surtitle/api"
	"surtitle/code"
	"surtitle/conv"
	"surtitle/cue"
	"surtitle/frm"
)

// faulty is a file's fault as an error.
type faulty struct{ fault api.Fault }

func (f faulty) Error() string {
	return f.fault.Err.Error() + " at " + strconv.Itoa(f.fault.Line) + " " + strconv.Itoa(f.fault.Col)
}

// format tells one of those that a line names, by its rate.
func format(a args, which int) conv.Format {
	f, _ := conv.Of(a.formats[which], a.rate) // both were read as right ones: no error
	return f
}

func (p *player) read(a args) ([]string, error) {
	d, more, fault := parsed(a)
	if fault.Err != api.OK {
		return nil, faulty{fault}
	}
	return append([]string{howMany(d)}, more...), p.set(a, d)
}

// parsed tells the document of a file, and what else is told of it.
func parsed(a args) (api.Doc, []string, api.Fault) {
	if a.formats[0] != api.FFrm {
		d, fault := format(a, 0).Parse([]byte(a.text))
		return d, nil, fault
	}
	d, rate, fault := frm.Parse([]byte(a.text))
	s, _ := code.RateText(rate) // only a file with a fault has none
	return d, []string{s}, fault
}

func (p *player) write(a args) ([]string, error) {
	b, lost, err := format(a, 0).Write(p.doc(a, 0))
	if err != nil {
		return nil, err
	}
	return written(b, lost), nil
}

func (p *player) convert(a args) ([]string, error) {
	b, _, err := format(a, 0).Write(p.doc(a, 0))
	if err != nil {
		return nil, err
	}
	b, lost, err := conv.Convert(b, a.formats[0], a.formats[1], a.rate)
	if err != nil {
		return nil, err
	}
	return written(b, lost), nil
}

// written tells a file, and what was lost.
func written(b []byte, lost []api.Loss) []string {
	return append([]string{Quote(b)}, each(lost, sayLoss)...)
}

func (p *player) keep(a args) ([]string, error) {
	kept, lost, err := cue.Keep(p.doc(a, 0), format(a, 0).Can())
	if err != nil {
		return nil, err
	}
	return each(lost, sayLoss), p.set(a, kept)
}
