package mark

import (
	"unicode/utf8"

	"surtitle/api"
	"surtitle/utf"
)

// reader goes through a text of a dialect.
type reader struct {
	dialect int
	rest    string // what is not read yet
	fresh   bool   // the rest is all; of DPipe: or it stands behind a form
	said    pile
	look    look // of the signs from here on
	tags    tags
	name    string
	side    int
}

// form is what a part of a text does that is more than its signs.
type form struct {
	size  int    // its bytes; 0: it is none
	sign  string // for which it stands; empty: for none
	does  int
	kind  int  // of a tag
	worth int  // what a tag's kind is in a look
	look  look // of the signs behind it
	name  string
	side  int
}

// What forms do, beside standing for a sign.
const (
	nothing = iota
	opens   // a tag of kind and worth
	closes  // the last tag of kind
	looks   // signs have look, the side is side
	names   // the name is name
)

// read goes on from the left, form by form, and where none stands sign by sign.
func (r *reader) read() {
	var (
		lead rune
		size int
		f    form
	)
next:
	// What is too long already stays so, whatever is left.
	if r.rest == "" || r.said.s.Len() > api.MaxText {
		return
	}
	lead, size = utf8.DecodeRuneInString(r.rest)
	switch lead {
	case '<', '&', '|', '{', '\\':
		goto form
	}
sign:
	r.stand(size)
	goto next
form:
	f = r.formHere()
	if f.size == 0 {
		goto sign
	}
	// Were it taken out, bytes on both its sides would become another sign.
	if f.sign == "" && utf.Melts(r.said.s.String(), r.rest[f.size:]) {
		goto sign
	}
	r.take(f)
	goto next
}

// formHere tells the form with which the rest begins.
func (r *reader) formHere() form {
	var f form
	switch r.dialect {
	case api.DPipe:
		return lineForm(r.rest, r.look, r.fresh)
	case api.DBrace:
		return orderForm(r.rest, r.look, r.fresh)
	case api.DVoice:
		f = voiceForm(r.rest, r.fresh)
	}
	if f.size == 0 {
		f = tagForm(r.dialect, r.rest)
	}
	if f.does == closes && !r.tags.has(f.kind) {
		return form{}
	}
	return f
}

// take does what a form does, and goes on behind it.
func (r *reader) take(f form) {
	if f.sign != "" {
		r.said.put(f.sign, r.look)
	}
	switch f.does {
	case opens:
		r.tags.open(f.kind, f.worth)
		r.look = r.tags.look()
	case closes:
		r.tags.close(f.kind)
		r.look = r.tags.look()
	case looks:
		r.look = f.look
		r.side = max(r.side, f.side)
	case names:
		r.name = f.name
	}
	r.rest = r.rest[f.size:]
	// Every form of DPipe ends a line, or says how the one looks that begins.
	r.fresh = r.dialect == api.DPipe
}

// stand lays down the sign of that many bytes with which the rest begins, and goes on behind it.
func (r *reader) stand(size int) {
	r.said.put(r.rest[:size], r.look)
	r.rest = r.rest[size:]
	r.fresh = false
}

// tags is what is open: how many of each kind; the colours, one behind the other.
type tags struct {
	count   [api.KStrike + 1]int
	colours []int
}

func (t *tags) has(kind int) bool {
	if kind == api.KColour {
		return len(t.colours) > 0
	}
	return t.count[kind] > 0
}

func (t *tags) open(kind, worth int) {
	if kind == api.KColour {
		t.colours = append(t.colours, worth)
	} else {
		t.count[kind]++
	}
}

func (t *tags) close(kind int) {
	if kind == api.KColour {
		t.colours = t.colours[:len(t.colours)-1]
	} else {
		t.count[kind]--
	}
}

// look tells how signs look within all that is open.
func (t *tags) look() look {
	var l look
	for kind, n := range t.count {
		l[kind] = min(n, 1)
	}
	if n := len(t.colours); n > 0 {
		l[api.KColour] = t.colours[n-1]
	}
	return l
}
