package edit_test

import (
	"slices"
	"strings"
	"testing"
	"unsafe"

	"surtitle/api"
	"surtitle/cue"
	"surtitle/edit"
	"surtitle/style"
	"surtitle/utf"
)

// TestBackAndForth: P2006 (T1, T7): any number of Undos behind as many Dos, and as many Redos, bring back what was; the document is right at every moment.
func TestBackAndForth(t *testing.T) {
	m, all := newMaker(11), 0
	for range 1500 {
		c := m.clock()
		d := m.doc(6, c)
		l, was := begin(t, d), []api.Doc{d}
		for range 12 {
			if l.Do(m.edit(l.Doc(), c)) == api.OK {
				was = append(was, l.Doc())
			}
		}
		if cue.CheckDoc(l.Doc()) != nil {
			t.Fatalf("%s is not right", say(l.Doc()))
		}
		n := m.dice.IntN(len(was))
		for k := range n {
			if f, x := l.Undo(), l.Doc(); f != api.OK || !sameDoc(x, was[len(was)-2-k]) || cue.CheckDoc(x) != nil {
				t.Fatalf("Undo: %v, %s; want %s", f, say(x), say(was[len(was)-2-k]))
			}
		}
		for k := range n {
			if f, x := l.Redo(), l.Doc(); f != api.OK || !sameDoc(x, was[len(was)-n+k]) || cue.CheckDoc(x) != nil {
				t.Fatalf("Redo: %v, %s; want %s", f, say(x), say(was[len(was)-n+k]))
			}
		}
		all += n
	}
	if all < 3000 {
		t.Errorf("only %d are undone: the edits try too little", all)
	}
}

// TestAnyUnit: P2007 (T7): an edit of a part does the same, whichever unit tells the part.
func TestAnyUnit(t *testing.T) {
	m, done := newMaker(12), [11]int{}
	for range 20000 {
		c := m.clock()
		d := m.doc(4, c)
		e := m.edit(d, c)
		e.Op = pick(m, api.EText, api.EStyle, api.ESplit)
		if e.Cue < 0 || e.Cue >= len(d.Cues) {
			continue
		}
		s := d.Cues[e.Cue].Text.S
		e.From = m.dice.IntN(min(utf.Count(s), 20) + 1)
		e.To = e.From + m.dice.IntN(min(utf.Count(s)-e.From, 20)+1)
		e.Unit = api.USigns
		x := begin(t, d)
		want := x.Do(e)
		for _, unit := range []int{api.UBytes, api.UPairs} {
			other := e
			other.Unit = unit
			other.From, _ = utf.Place(s, e.From, api.USigns, unit)
			other.To, _ = utf.Place(s, e.To, api.USigns, unit)
			y := begin(t, d)
			if f := y.Do(other); f != want || !sameDoc(x.Doc(), y.Doc()) {
				t.Fatalf("%s: %v, %s; by unit %d: %v, %s", say(e), want, say(x.Doc()), unit, f, say(y.Doc()))
			}
		}
		if want == api.OK {
			done[e.Op]++
		}
	}
	if done[api.EText] < 1000 || done[api.EStyle] < 1000 || done[api.ESplit] < 1000 {
		t.Errorf("%v: the edits try too little", done)
	}
}

// TestSameText: P2007: EText of a part with what stands in it changes no sign and no look.
func TestSameText(t *testing.T) {
	m, done := newMaker(13), 0
	for range 10000 {
		x := m.cue(m.clock())
		n := utf.Count(x.Text.S)
		from := m.dice.IntN(n + 1)
		to := from + m.dice.IntN(n-from+1)
		with, _ := style.Cut(x.Text, from, to)
		l := begin(t, doc(x))
		f := l.Do(api.Edit{Op: api.EText, Unit: api.USigns, From: from, To: to, Text: with})
		if f != api.OK && f != api.ErrMany || !cue.Same(l.Doc(), doc(x)) {
			t.Fatalf("%s from %d to %d: %v, %s", say(x), from, to, f, say(l.Doc()))
		}
		if f == api.OK {
			done++
		}
	}
	if done < 8000 {
		t.Errorf("only %d are done: the texts try too little", done)
	}
}

// TestSplitAndJoin: P2007: ESplit, and EJoin of the two parts, where they lie beside one another, bring the cue back, its text alike.
func TestSplitAndJoin(t *testing.T) {
	m, done := newMaker(14), 0
	for range 10000 {
		c := m.clock()
		d := m.doc(4, c)
		e := m.edit(d, c)
		for e.Op != api.ESplit {
			e = m.edit(d, c)
		}
		l := begin(t, d)
		if l.Do(e) != api.OK {
			continue
		}
		after := l.Doc().Cues
		if e.Cue+1 < len(d.Cues) && cue.Compare(d.Cues[e.Cue+1], api.Cue{Start: e.Start, End: d.Cues[e.Cue].End}) <= 0 {
			continue // another cue lies between
		}
		if f := l.Do(api.Edit{Op: api.EJoin, Cue: e.Cue}); f == api.ErrMany && len(after[e.Cue].Text.Spans)+len(after[e.Cue+1].Text.Spans) > 256 {
			continue // spans that were cut are two
		} else if f != api.OK || !cue.Same(l.Doc(), d) {
			t.Fatalf("%s in %s, and joined: %v, %s", say(e), say(d), f, say(l.Doc()))
		}
		done++
	}
	if done < 2000 {
		t.Errorf("only %d are joined: the edits try too little", done)
	}
}

// TestRefusedChangesNothing: P5: a call that answers an error has changed nothing that a later call could tell.
func TestRefusedChangesNothing(t *testing.T) {
	m, refused := newMaker(15), 0
	for range 4000 {
		c := m.clock()
		l := begin(t, m.doc(5, c))
		for range m.dice.IntN(8) {
			l.Do(m.edit(l.Doc(), c))
		}
		for range m.dice.IntN(4) {
			l.Undo()
		}
		x := l.Twin()
		for range 6 {
			if e := m.edit(l.Doc(), c); x.Twin().Do(e) != api.OK && l.Do(e) != api.OK {
				refused++
			}
		}
		holdAlike(t, l, x)
	}
	if refused < 4000 {
		t.Errorf("only %d are refused: the edits try too little", refused)
	}
}

// holdAlike complains if two logs are not the same, all the way back and forth.
func holdAlike(t *testing.T, x, y *edit.Log) {
	t.Helper()
	for _, move := range []func(*edit.Log) api.Errno{(*edit.Log).Undo, (*edit.Log).Redo} {
		for f := api.OK; f == api.OK; {
			if !sameDoc(x.Doc(), y.Doc()) || x.Done() != y.Done() || x.Undone() != y.Undone() {
				t.Fatalf("%s, %d, %d; %s, %d, %d", say(x.Doc()), x.Done(), x.Undone(), say(y.Doc()), y.Done(), y.Undone())
			}
			f = move(x)
			if g := move(y); f != g {
				t.Fatalf("%v, %v", f, g)
			}
		}
	}
}

// TestNothingPanics: P1: any numbers and bytes at all; P4: beside an error stands nothing.
func TestNothingPanics(t *testing.T) {
	m := newMaker(16)
	number := func() int { return int(m.dice.Uint64()) >> m.dice.IntN(64) }
	ratio := func() api.Ratio { return pick(m, m.wild(), r(int64(number()), int64(number()))) }
	text := func() api.Text {
		x := m.text()
		if m.one(3) {
			x.Spans = append(x.Spans, api.Span{From: number(), To: number(), Kind: number(), Value: number()})
		}
		return x
	}
	anyCue := func() api.Cue {
		return api.Cue{Start: ratio(), End: ratio(), Lane: number(), Side: number(), Name: m.string(3), Text: text()}
	}
	for range 30000 {
		c := m.clock()
		d := m.doc(4, c)
		e := m.edit(d, c)
		if m.one(4) {
			d.Cues = append(d.Cues, anyCue())
		}
		if m.half() {
			e = api.Edit{Op: pick(m, number(), 1+m.dice.IntN(10)), Cue: pick(m, number(), 0), Unit: pick(m, number(), 1, 2, 3), From: number(), To: number(), Kind: number(), Value: number()}
			e.Start, e.End, e.Lane, e.Side, e.Name, e.Text, e.New = ratio(), ratio(), number(), number(), m.string(4), text(), anyCue()
		}
		back, g := edit.Inverse(d, e)
		l, err := edit.New(d)
		if err != nil {
			w, ok := err.(*cue.Wrong)
			if !ok || l != nil || len(back) > 0 || g != w.Err {
				t.Fatalf("New(%s): %v; Inverse: %v, %v", say(d), err, back, g)
			}
			continue
		}
		if f := l.Do(e); f != g || f != api.OK && len(back) > 0 || cue.CheckDoc(l.Doc()) != nil {
			t.Fatalf("Do(%s) in %s: %v, %v, %s", say(e), say(d), f, g, say(l.Doc()))
		}
	}
	// A log that no call has made is one of no cues.
	var l edit.Log
	if l.Undo() != api.ErrNone || l.Redo() != api.ErrNone || len(l.Doc().Cues) > 0 || l.Twin().Done() != 0 || l.Do(api.Edit{Op: api.ELay, New: secs(0, 1, "")}) != api.OK || l.Undone() != 0 {
		t.Error("a log that no call has made")
	}
}

// inside tells whether a text lies in the memory of another one.
func inside(part, s string) bool {
	at, from := uintptr(unsafe.Pointer(unsafe.StringData(part))), uintptr(unsafe.Pointer(unsafe.StringData(s)))
	return part != "" && at >= from && at < from+uintptr(len(s))
}

// shareList tells whether two lists have memory in common, spare room and all.
func shareList[T any](x, y []T) bool {
	x, y = x[:cap(x)], y[:cap(y)]
	for p := range x {
		for q := range y {
			if &x[p] == &y[q] {
				return true
			}
		}
	}
	return false
}

// shareMemory tells whether two cues have memory in common.
func shareMemory(x, y api.Cue) bool {
	return shareList(x.Text.Spans, y.Text.Spans) || inside(x.Name, y.Name) || inside(x.Text.S, y.Text.S)
}

// spoilAll changes all memory of cues that can be changed.
func spoilAll(l []api.Cue) {
	for _, x := range l {
		clear(x.Text.Spans[:cap(x.Text.Spans)])
	}
	clear(l[:cap(l)])
}

// rich is a document of cues of which nothing is zero, in memory with spare room.
func rich() api.Doc {
	x := func(from, to int64) api.Cue {
		spans := append(make([]api.Span, 0, 9), i(2, 3), b(0, 5), c(1, 1, 4))
		return api.Cue{Start: whole(from), End: whole(to), Lane: 3, Side: api.High, Name: strings.Repeat("n", 40), Text: api.Text{S: strings.Repeat("text ", 9), Spans: spans}}
	}
	return doc(append(make([]api.Cue, 0, 9), x(1, 9), x(2, 9), x(3, 9))...)
}

// someEdits are edits of rich, of all kinds, in memory with spare room.
func someEdits() []api.Edit {
	return []api.Edit{
		{Op: api.ELay, Cue: 2, New: rich().Cues[1]},
		{Op: api.ETake, Cue: 1},
		{Op: api.ETimes, Start: whole(0), End: whole(5)},
		{Op: api.EText, Cue: 1, Unit: api.USigns, From: 3, To: 9, Text: rich().Cues[0].Text},
		{Op: api.EText, Cue: 1, Unit: api.USigns, From: 0, To: 45, Text: rich().Cues[0].Text},
		{Op: api.EStyle, Cue: 1, Unit: api.UBytes, From: 3, To: 9, Kind: api.KColour, Value: 7},
		{Op: api.EShift, Cue: 1, To: 3, Start: r(1, 2)},
		{Op: api.ESplit, Cue: 2, Unit: api.UPairs, From: 9, Start: whole(5)},
		{Op: api.EJoin, Cue: 1},
		{Op: api.EPlace, Cue: 1, Lane: 1},
		{Op: api.ERename, Cue: 1, Name: strings.Repeat("m", 50)},
	}
}

// TestHandedIn: P2: nothing that is handed in is changed, its spare room neither, and nothing of it is kept.
func TestHandedIn(t *testing.T) {
	for n, e := range someEdits() {
		d, wasEdit := rich(), someEdits()[n]
		want, f := editWords(rich(), wasEdit)
		l := begin(t, d)
		edit.Inverse(d, e)
		if g := l.Do(e); f != api.OK || g != api.OK {
			t.Fatal(n, f, g)
		}
		if !sameDoc(doc(d.Cues[:9]...), doc(rich().Cues[:9]...)) || !slices.Equal(d.Cues[0].Text.Spans[:9], rich().Cues[0].Text.Spans[:9]) {
			t.Errorf("%d: the document that was handed in is %s", n, say(d))
		}
		if !sameCue(e.New, wasEdit.New) || !slices.Equal(e.Text.Spans[:cap(e.Text.Spans)], wasEdit.Text.Spans[:cap(e.Text.Spans)]) || !slices.Equal(e.New.Text.Spans[:cap(e.New.Text.Spans)], wasEdit.New.Text.Spans[:cap(e.New.Text.Spans)]) {
			t.Errorf("%d: the edit that was handed in is %s", n, say(e))
		}
		for _, x := range l.Doc().Cues {
			for _, y := range append(slices.Clone(d.Cues), e.New, api.Cue{Name: e.Name, Text: e.Text}) {
				if shareMemory(x, y) {
					t.Errorf("%d: %s is memory that was handed in", n, say(x))
				}
			}
		}
		spoilAll(d.Cues)
		spoilAll([]api.Cue{e.New, {Text: e.Text}})
		for range 2 {
			if !sameDoc(l.Doc(), want) || l.Undo() != api.OK || !sameDoc(l.Doc(), rich()) || l.Redo() != api.OK {
				t.Errorf("%d: kept: %s", n, say(l.Doc()))
			}
		}
	}
}

// TestAnswersAreNew: P2, P3: whatever is done to an answer, a log, its twin, and what they tell later, stay as they are.
func TestAnswersAreNew(t *testing.T) {
	for n, e := range someEdits() {
		want, _ := editWords(rich(), e)
		l := begin(t, rich())
		x := l.Doc()
		l.Do(e)
		twin := l.Twin()
		for k, l := range []*edit.Log{l, twin, l} {
			y := l.Doc()
			if !sameDoc(y, want) || shareList(x.Cues, y.Cues) {
				t.Errorf("%d, %d: %s", n, k, say(y))
			}
			for p, u := range y.Cues {
				for _, v := range slices.Concat(x.Cues, y.Cues[:p]) {
					if shareMemory(u, v) {
						t.Errorf("%d, %d: cue %d shares memory", n, k, p)
					}
				}
			}
			spoilAll(y.Cues)
		}
		spoilAll(x.Cues)
		for _, l := range []*edit.Log{l, twin} {
			if l.Undo() != api.OK || !sameDoc(l.Doc(), rich()) {
				t.Errorf("%d: %s", n, say(l.Doc()))
			}
			spoilAll(l.Doc().Cues)
			if l.Redo() != api.OK || !sameDoc(l.Doc(), want) {
				t.Errorf("%d: %s", n, say(l.Doc()))
			}
		}
		holdNewInverse(t, e)
	}
}

// holdNewInverse complains if the edits that Inverse tells have memory in common with one another, or with what was handed in.
func holdNewInverse(t *testing.T, e api.Edit) {
	t.Helper()
	d := rich()
	l, _ := edit.Inverse(d, e)
	for n, x := range l {
		for _, y := range append(slices.Clone(d.Cues), e.New, api.Cue{Name: e.Name, Text: e.Text}) {
			if shareMemory(x.New, y) {
				t.Errorf("%s: edit %d has memory that was handed in", say(e), n)
			}
		}
		for _, y := range l[:n] {
			if shareMemory(x.New, y.New) {
				t.Errorf("%s: edit %d shares memory with another one", say(e), n)
			}
		}
		spoilAll([]api.Cue{x.New})
	}
	if !sameDoc(d, rich()) {
		t.Errorf("%s: the document is %s", say(e), say(d))
	}
	holdInverse(t, d, e, api.OK)
}

// TestMostOfAll: P1, P2002 to P2005 of as many cues as may be, with texts as long as may be, and more edits than can be undone.
func TestMostOfAll(t *testing.T) {
	d := times(api.MaxCues, secs(0, 300, strings.Repeat("x", api.MaxText), comb(api.MaxSpans)...))
	l := begin(t, d)
	step := r(1, 1<<20)
	for n := range 1100 {
		if f := l.Do(api.Edit{Op: api.EShift, To: api.MaxCues, Start: step}); f != api.OK {
			t.Fatal(n, f)
		}
	}
	x := l.Doc().Cues[4095]
	if want := r(1100/4, 1<<18); x.Start != want || l.Done() != api.MaxLog {
		t.Fatal(x.Start, want, l.Done())
	}
	for l.Undo() == api.OK {
	}
	x = l.Doc().Cues[4095]
	if want := r(76/4, 1<<18); x.Start != want || l.Undone() != api.MaxLog {
		t.Fatal(x.Start, want, l.Undone())
	}
	// A cue that goes far behind, and the long way back.
	l = begin(t, doc(d.Cues[1:]...))
	for n := range 1100 {
		if f := l.Do(api.Edit{Op: api.ESplit, Unit: api.UBytes, From: 2000, Start: whole(200)}); f != api.OK {
			t.Fatal(n, f)
		}
		if f := l.Do(api.Edit{Op: api.ETake, Cue: 4095}); f != api.OK {
			t.Fatal(n, f)
		}
		if f := l.Do(api.Edit{Op: api.ETimes, Start: whole(0), End: whole(300)}); f != api.OK {
			t.Fatal(n, f)
		}
		if f := l.Do(insert(strings.Repeat("y", 2096))); f != api.OK {
			t.Fatal(n, f)
		}
	}
	for range 4 * (api.MaxLog / 4) {
		l.Undo()
	}
	if n := l.Undone(); n != api.MaxLog || l.Done() != 0 || cue.CheckDoc(l.Doc()) != nil {
		t.Error(n, l.Done())
	}
	back, f := edit.Inverse(d, api.Edit{Op: api.EJoin, Cue: 4094})
	if f != api.ErrLong || len(back) > 0 {
		t.Error(f)
	}
	holdInverse(t, times(api.MaxCues, secs(0, 1, "")), api.Edit{Op: api.EJoin, Cue: 4094}, api.OK)
	holdInverse(t, times(api.MaxCues-1, secs(0, 2, "ab")), api.Edit{Op: api.ESplit, Unit: api.USigns, From: 1, Start: whole(1)}, api.OK)
	holdInverse(t, times(api.MaxCues, secs(0, 1, "")), api.Edit{Op: api.EShift, To: api.MaxCues, Start: whole(9)}, api.OK)
}
