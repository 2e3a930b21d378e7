package style_test

import (
	"cmp"
	"iter"
	"math/rand/v2"
	"slices"
	"strings"
	"testing"
	"unicode/utf8"

	"surtitle/api"
	"surtitle/style"
)

// What stands here says the chapter's words sign by sign and pair by pair, slowly, to hold the program against.

// signsIn tells the bytes of each sign (W1).
func signsIn(s string) []string {
	var l []string
	for s != "" {
		_, n := utf8.DecodeRuneInString(s)
		l = append(l, s[:n])
		s = s[n:]
	}
	return l
}

// melt: W2.
func melt(a, b string) bool {
	return !slices.Equal(signsIn(a+b), append(signsIn(a), signsIn(b)...))
}

func isIn(x, y api.Span) bool { return x.From >= y.From && x.To <= y.To }

// mayBe: W6, of one span.
func mayBe(x api.Span, n int) bool {
	if x.From < 0 || x.To > n || x.From >= x.To {
		return false
	}
	switch x.Kind {
	case api.KBold, api.KItalic, api.KUnder, api.KStrike:
		return x.Value == 0
	case api.KColour:
		return x.Value >= 0 && x.Value <= 0xFFFFFF
	}
	return false
}

// checkWords: P701.
func checkWords(t api.Text) api.Errno {
	if len(t.S) > 4096 {
		return api.ErrLong
	}
	if len(t.Spans) > 256 {
		return api.ErrMany
	}
	for n, x := range t.Spans {
		if !mayBe(x, len(signsIn(t.S))) {
			return api.ErrSpan
		}
		for _, y := range t.Spans[:n] {
			if max(x.From, y.From) < min(x.To, y.To) && !isIn(x, y) && !isIn(y, x) {
				return api.ErrSpan
			}
		}
	}
	return api.OK
}

// lookWords: P702.
func lookWords(t api.Text, sign int) api.Attr {
	var a api.Attr
	inner := -1
	for n, x := range t.Spans {
		if sign < x.From || sign >= x.To {
			continue
		}
		switch x.Kind {
		case api.KBold:
			a.Bold = true
		case api.KItalic:
			a.Italic = true
		case api.KUnder:
			a.Under = true
		case api.KStrike:
			a.Strike = true
		case api.KColour:
			if inner < 0 || isIn(x, t.Spans[inner]) {
				inner = n
			}
		}
	}
	if inner >= 0 {
		a.Colour = t.Spans[inner].Value + 1
	}
	return a
}

func looksWords(t api.Text) []api.Attr {
	var l []api.Attr
	for sign := range signsIn(t.S) {
		l = append(l, lookWords(t, sign))
	}
	return l
}

// runsWords: P703.
func runsWords(looks []api.Attr) []api.Run {
	var l []api.Run
	for from := 0; from < len(looks); {
		to := from + 1
		for to < len(looks) && looks[to] == looks[from] {
			to++
		}
		l = append(l, api.Run{From: from, To: to, Attr: looks[from]})
		from = to
	}
	return l
}

// has tells one more than the Value with which a look has a kind, or 0.
func has(a api.Attr, kind int) int {
	if kind == api.KColour {
		return a.Colour
	}
	if []bool{a.Bold, a.Italic, a.Under, a.Strike}[kind-api.KBold] {
		return 1
	}
	return 0
}

// normWords: P704: of all stretches those that may be and can't be made longer.
func normWords(looks []api.Attr) []api.Span {
	var all []api.Span
	for kind := api.KBold; kind <= api.KColour; kind++ {
		ahead := slices.Clone(all)
		may := func(from, to int) bool {
			if from < 0 || to > len(looks) || has(looks[from], kind) == 0 {
				return false
			}
			for at := from; at < to; at++ {
				if has(looks[at], kind) != has(looks[from], kind) {
					return false
				}
			}
			return !slices.ContainsFunc(ahead, func(x api.Span) bool {
				return x.From > from && x.From < to || x.To > from && x.To < to
			})
		}
		for from := range looks {
			for to := from + 1; to <= len(looks); to++ {
				if may(from, to) && !may(from-1, to) && !may(from, to+1) {
					all = append(all, api.Span{From: from, To: to, Kind: kind, Value: has(looks[from], kind) - 1})
				}
			}
		}
	}
	slices.SortFunc(all, func(a, b api.Span) int {
		return cmp.Or(a.From-b.From, b.To-a.To, a.Kind-b.Kind)
	})
	return all
}

// makeWords: P704, of looks.
func makeWords(s string, looks []api.Attr) (api.Text, api.Errno) {
	l := normWords(looks)
	if len(l) > 256 {
		return api.Text{}, api.ErrMany
	}
	return api.Text{S: s, Spans: l}, api.OK
}

// outerWords: P706: by From, then the greater To, then as they stand.
func outerWords(l []api.Span) []api.Span {
	var out []api.Span
	for _, x := range l {
		at := 0
		for at < len(out) && (out[at].From < x.From || out[at].From == x.From && out[at].To >= x.To) {
			at++
		}
		out = slices.Insert(out, at, x)
	}
	return out
}

// cutWords: P706.
func cutWords(t api.Text, from, to int) (api.Text, api.Errno) {
	signs := signsIn(t.S)
	if from < 0 || to < from || to > len(signs) {
		return api.Text{}, api.ErrArg
	}
	x := api.Text{S: strings.Join(signs[from:to], "")}
	for _, y := range outerWords(t.Spans) {
		if a, z := max(y.From, from), min(y.To, to); a < z {
			x.Spans = append(x.Spans, api.Span{From: a - from, To: z - from, Kind: y.Kind, Value: y.Value})
		}
	}
	return x, api.OK
}

// joinWords: P707.
func joinWords(a, b api.Text) (api.Text, api.Errno) {
	switch {
	case len(a.S)+len(b.S) > 4096:
		return api.Text{}, api.ErrLong
	case melt(a.S, b.S):
		return api.Text{}, api.ErrSeam
	case len(a.Spans)+len(b.Spans) > 256:
		return api.Text{}, api.ErrMany
	}
	x := api.Text{S: a.S + b.S, Spans: slices.Clone(a.Spans)}
	n := len(signsIn(a.S))
	for _, y := range b.Spans {
		x.Spans = append(x.Spans, api.Span{From: y.From + n, To: y.To + n, Kind: y.Kind, Value: y.Value})
	}
	return x, api.OK
}

// spliceWords: P708.
func spliceWords(t api.Text, from, to int, with api.Text) (api.Text, api.Errno) {
	signs := signsIn(t.S)
	if from < 0 || to < from || to > len(signs) {
		return api.Text{}, api.ErrArg
	}
	front, rest := strings.Join(signs[:from], ""), strings.Join(signs[to:], "")
	s := front + with.S + rest
	if len(s) > 4096 {
		return api.Text{}, api.ErrLong
	}
	if melt(front, with.S) || melt(front+with.S, rest) {
		return api.Text{}, api.ErrSeam
	}
	n := len(signsIn(with.S))
	d := n - (to - from)
	var l []api.Span
	for _, x := range outerWords(t.Spans) {
		f, e := from+n, from
		if x.From >= to {
			f = x.From + d
		} else if x.From <= from {
			f = x.From
		}
		if x.To <= from {
			e = x.To
		} else if x.To >= to {
			e = x.To + d
		}
		if e > f {
			l = append(l, api.Span{From: f, To: e, Kind: x.Kind, Value: x.Value})
		}
	}
	for _, x := range with.Spans {
		l = append(l, api.Span{From: x.From + from, To: x.To + from, Kind: x.Kind, Value: x.Value})
	}
	if len(l) > 256 {
		return api.Text{}, api.ErrMany
	}
	return api.Text{S: s, Spans: l}, api.OK
}

// setWords: P709.
func setWords(t api.Text, x api.Span) (api.Text, api.Errno) {
	looks := looksWords(t)
	if !mayBe(x, len(looks)) {
		return api.Text{}, api.ErrSpan
	}
	for at := x.From; at < x.To; at++ {
		switch x.Kind {
		case api.KBold:
			looks[at].Bold = true
		case api.KItalic:
			looks[at].Italic = true
		case api.KUnder:
			looks[at].Under = true
		case api.KStrike:
			looks[at].Strike = true
		case api.KColour:
			looks[at].Colour = x.Value + 1
		}
	}
	return makeWords(t.S, looks)
}

// holdText complains if the calls of one text do not tell what the words say; it tells whether the text is right.
func holdText(t *testing.T, x api.Text) bool {
	t.Helper()
	want := checkWords(x)
	if e := style.Check(x); e != want {
		t.Fatalf("Check(%+v): %v; want %v", x, e, want)
	}
	if want != api.OK {
		return false
	}
	looks := looksWords(x)
	for sign, a := range looks {
		if got, e := style.Look(x, sign); got != a || e != api.OK {
			t.Fatalf("Look(%+v, %d): %v, %v; want %v", x, sign, got, e, a)
		}
	}
	if l, e := style.Runs(x); e != api.OK || !slices.Equal(l, runsWords(looks)) {
		t.Fatalf("Runs(%+v): %v, %v; want %v", x, l, e, runsWords(looks))
	}
	y, e := style.Norm(x)
	z, f := makeWords(x.S, looks)
	holdAny(t, "Norm", x, y, e, z, f)
	signs := signsIn(x.S)
	at, n := 0, 0
	for g, a := range style.Signs(x) {
		r, _ := utf8.DecodeRuneInString(signs[n])
		bad := r == utf8.RuneError && len(signs[n]) == 1
		if g != (api.Sign{At: at, Len: len(signs[n]), Rune: r, Bad: bad}) || a != looks[n] {
			t.Fatalf("Signs(%+v): %v, %v", x, g, a)
		}
		at += g.Len
		n++
	}
	if n != len(signs) {
		t.Fatalf("Signs(%+v): %d of %d", x, n, len(signs))
	}
	return true
}

func holdAny(t *testing.T, what string, of any, got api.Text, e api.Errno, want api.Text, f api.Errno) {
	t.Helper()
	if e != f || got.S != want.S || !slices.Equal(got.Spans, want.Spans) {
		t.Fatalf("%s(%+v): %+v, %v; want %+v, %v", what, of, got, e, want, f)
	}
}

// holdCuts and the others hold a call against the words.
func holdCuts(t *testing.T, x api.Text) {
	t.Helper()
	n := len(signsIn(x.S))
	for from := -1; from <= n+1; from++ {
		for to := -1; to <= n+1; to++ {
			y, e := style.Cut(x, from, to)
			z, f := cutWords(x, from, to)
			holdAny(t, "Cut", []any{x, from, to}, y, e, z, f)
		}
	}
}

func holdSplices(t *testing.T, x, with api.Text) {
	t.Helper()
	n := len(signsIn(x.S))
	for from := -1; from <= n+1; from++ {
		for to := -1; to <= n+1; to++ {
			y, e := style.Splice(x, from, to, with)
			z, f := spliceWords(x, from, to, with)
			holdAny(t, "Splice", []any{x, from, to, with}, y, e, z, f)
		}
	}
}

func holdSet(t *testing.T, x api.Text, y api.Span) {
	t.Helper()
	got, e := style.Set(x, y)
	want, f := setWords(x, y)
	holdAny(t, "Set", []any{x, y}, got, e, want, f)
}

func holdJoin(t *testing.T, a, b api.Text) {
	t.Helper()
	got, e := style.Join(a, b)
	want, f := joinWords(a, b)
	holdAny(t, "Join", []any{a, b}, got, e, want, f)
}

// spansOf goes over all spans of n signs of some kinds, those that may not be at their rims too.
func spansOf(n int) iter.Seq[api.Span] {
	return func(yield func(api.Span) bool) {
		for from := range n + 1 {
			for to := range n + 2 {
				for _, x := range []api.Span{b(from, to), u(from, to), c(0, from, to), c(9, from, to)} {
					if !yield(x) {
						return
					}
				}
			}
		}
	}
}

// TestAllShort: P701 to P710, of all texts of 3 signs with up to 2 spans, and of all of 3 spans.
func TestAllShort(t *testing.T) {
	s, right := "é\xc3c", 0
	withs := []api.Text{text(""), text("x", c(4, 0, 1)), text("\xa9z", b(0, 2), i(1, 2))}
	for x := range spansOf(3) {
		for y := range spansOf(3) {
			if z := text(s, x, y); holdText(t, z) {
				holdCuts(t, z)
				for _, with := range withs {
					holdSplices(t, z, with)
					holdJoin(t, z, with)
					holdJoin(t, with, z)
				}
				for set := range spansOf(3) {
					holdSet(t, z, set)
				}
			}
			for z := range spansOf(3) {
				if mayBe(x, 3) && mayBe(y, 3) && holdText(t, text(s, x, y, z)) {
					right++
				}
			}
		}
	}
	if right < 5000 {
		t.Errorf("only %d are right: the texts try too little", right)
	}
}

// maker makes texts by dice.
type maker struct {
	dice *rand.Rand
}

func newMaker(seed uint64) maker { return maker{rand.New(rand.NewPCG(seed, 7))} }

// string is one of up to most parts of signs.
func (m maker) string(most int) string {
	parts := []string{"a", "b", " ", "\n", "é", "€", "😀", "\xc3", "\xa9", "\xe2", "\x82", "\xf0\x9f", "\x98", "\x80", "\xff"}
	s := ""
	for range m.dice.IntN(most + 1) {
		s += parts[m.dice.IntN(len(parts))]
	}
	return s
}

// span is one of n signs, more often a short one.
func (m maker) span(n int) api.Span {
	from := m.dice.IntN(n)
	to := from + 1 + m.dice.IntN(1+m.dice.IntN(n-from))
	x := api.Span{From: from, To: to, Kind: api.KBold + m.dice.IntN(5)}
	if m.dice.IntN(3) == 0 {
		x.Kind = api.KColour
	}
	if x.Kind == api.KColour {
		x.Value = m.dice.IntN(3)
	}
	return x
}

// text is a right one of up to most parts of signs.
func (m maker) text(most, spans int) api.Text { return m.over(m.string(most), spans) }

// over is a right one of that string.
func (m maker) over(s string, spans int) api.Text {
	x := text(s)
	n := len(signsIn(s))
	for range m.dice.IntN(spans + 1) {
		if n == 0 {
			break
		}
		more := append(x.Spans, m.span(n))
		if checkWords(api.Text{S: x.S, Spans: more}) == api.OK {
			x.Spans = more
		}
	}
	return x
}

// TestManyTexts: P701 to P710, of texts of any signs with many spans.
func TestManyTexts(t *testing.T) {
	m := newMaker(1)
	for range 1500 {
		x, y := m.text(10, 14), m.text(4, 5)
		if !holdText(t, x) {
			t.Fatalf("%+v is not right", x)
		}
		holdCuts(t, x)
		holdSplices(t, x, y)
		holdJoin(t, x, y)
		holdJoin(t, y, x)
		if n := len(signsIn(x.S)); n > 0 {
			z := m.span(n)
			holdSet(t, x, z)
			x.Spans = append(x.Spans, z)
			holdText(t, x)
		}
		if got := style.Same(x, y); got != (checkWords(x) == api.OK && x.S == y.S && slices.Equal(looksWords(x), looksWords(y))) {
			t.Fatalf("Same(%+v, %+v): %v", x, y, got)
		}
	}
}

// TestSameAny: P705: of the same signs with other spans.
func TestSameAny(t *testing.T) {
	m, told := newMaker(2), 0
	for range 60000 {
		x := m.text(3, 3)
		y := m.over(x.S, 3)
		want := slices.Equal(looksWords(x), looksWords(y))
		if want && len(x.Spans) > 0 && !slices.Equal(x.Spans, y.Spans) {
			told++
		}
		if style.Same(x, y) != want {
			t.Fatalf("Same(%+v, %+v): %v", x, y, !want)
		}
	}
	if told < 100 {
		t.Errorf("only %d are alike: the texts try too little", told)
	}
}

// TestCrowded: P701 to P709, of texts with about as many spans as may be.
func TestCrowded(t *testing.T) {
	m := newMaker(3)
	errors := map[api.Errno]int{}
	for n := range 12 {
		x := text(strings.Repeat("xé", 60))
		for range 20000 {
			if more := append(x.Spans, m.span(120)); len(more) <= 160+8*(n+1) && !crosses(more) {
				x.Spans = more
			}
		}
		holdText(t, x)
		for range 30 {
			y := m.span(120)
			_, e := setWords(x, y)
			errors[e]++
			holdSet(t, x, y)
			with := m.text(3, 9)
			from := m.dice.IntN(121)
			to := from + m.dice.IntN(121-from)
			got, e := style.Splice(x, from, to, with)
			want, f := spliceWords(x, from, to, with)
			errors[f]++
			holdAny(t, "Splice", []any{x, from, to, with}, got, e, want, f)
			holdJoin(t, x, with)
			holdJoin(t, with, x)
		}
	}
	if errors[api.OK] == 0 || errors[api.ErrMany] == 0 {
		t.Errorf("%v: the texts try too little", errors)
	}
}

// crosses tells whether the last span crosses one ahead.
func crosses(l []api.Span) bool {
	x := l[len(l)-1]
	return slices.ContainsFunc(l, func(y api.Span) bool {
		return max(x.From, y.From) < min(x.To, y.To) && !isIn(x, y) && !isIn(y, x)
	})
}
