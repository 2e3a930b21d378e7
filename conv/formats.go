package conv

import (
	"surtitle/api"
	"surtitle/ass"
	"surtitle/frm"
	"surtitle/srt"
	"surtitle/vtt"
)

// The formats, each by its package.
type (
	srtFormat struct{}
	vttFormat struct{}
	frmFormat struct {
		rate api.Rate // at which it writes; a file tells its own
		can  api.Can
	}
	assFormat struct{}
)

// frmAt tells the third format at a rate, if that is one.
func frmAt(r api.Rate) (Format, api.Errno) {
	can, e := frm.Can(r)
	if e != api.OK {
		return nil, e
	}
	return frmFormat{rate: r, can: can}, api.OK
}

func (srtFormat) Can() api.Can { return srt.Can() }

func (srtFormat) Write(d api.Doc) ([]byte, []api.Loss, error) { return srt.Write(d) }

func (srtFormat) Parse(b []byte) (api.Doc, api.Fault) { return srt.Parse(b) }

func (vttFormat) Can() api.Can { return vtt.Can() }

func (vttFormat) Write(d api.Doc) ([]byte, []api.Loss, error) { return vtt.Write(d) }

func (vttFormat) Parse(b []byte) (api.Doc, api.Fault) { return vtt.Parse(b) }

func (f frmFormat) Can() api.Can { return f.can }

func (f frmFormat) Write(d api.Doc) ([]byte, []api.Loss, error) { return frm.Write(d, f.rate) }

func (f frmFormat) Parse(b []byte) (api.Doc, api.Fault) {
	d, _, fault := frm.Parse(b)
	return d, fault
}

func (assFormat) Can() api.Can { return ass.Can() }

func (assFormat) Write(d api.Doc) ([]byte, []api.Loss, error) { return ass.Write(d) }

func (assFormat) Parse(b []byte) (api.Doc, api.Fault) { return ass.Parse(b) }
