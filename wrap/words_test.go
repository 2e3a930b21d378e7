package wrap_test

import (
	"cmp"
	"math/rand/v2"
	"regexp"
	"slices"
	"strconv"
	"strings"
	"unicode/utf8"

	"surtitle/api"
	"surtitle/cell"
	"surtitle/style"
	"surtitle/wrap"
)

// What stands here says the chapter's words slowly, by going through all ways, to hold the program against.

// The chapter's lists, as it writes them.
var (
	isBlank   = listed("U+0009, U+0020, U+1680, U+2000 to U+2006, U+2008 to U+200A, U+205F or U+3000")
	isDash    = listed("U+002D, U+2010, U+2012, U+2013 or U+2014")
	isOpening = listed("U+0028, U+005B, U+007B, U+3008, U+300A, U+300C, U+300E, U+3010, U+3014, U+FF08, U+FF3B or U+FF5B")
	isClosing = listed("U+0021, U+0029, U+002C, U+002E, U+003A, U+003B, U+003F, U+005D, U+007D, U+3001, U+3002, U+3009, U+300B, U+300D, U+300F, U+3011, U+3015, U+30FC, U+FF01, U+FF09, U+FF0C, U+FF0E, U+FF1A, U+FF1B, U+FF1F, U+FF3D or U+FF5D")
)

// listed tells whether a cluster begins with a rune of such a list.
func listed(words string) func(cluster) bool {
	runes := map[rune]bool{}
	for _, m := range regexp.MustCompile(`U\+([0-9A-F]{4})(?: to U\+([0-9A-F]{4}))?`).FindAllStringSubmatch(words, -1) {
		from, _ := strconv.ParseInt(m[1], 16, 32)
		to, _ := strconv.ParseInt(cmp.Or(m[2], m[1]), 16, 32)
		for r := from; r <= to; r++ {
			runes[rune(r)] = true
		}
	}
	return func(c cluster) bool {
		r, _ := utf8.DecodeRuneInString(c.text)
		return runes[r]
	}
}

// cluster is one of chapter 2, its bytes, where it begins and ends in signs, its cells.
type cluster struct {
	text            string
	from, to, cells int
}

func clustersIn(s string) []cluster {
	var l []cluster
	for c := range cell.Clusters(s) {
		l = append(l, cluster{s[c.At : c.At+c.Len], c.From, c.To, c.Cells})
	}
	return l
}

func isLineEnd(c cluster) bool { return c.text == "\n" }

func isWide(c cluster) bool { return c.cells == 2 && !isBlank(c) }

// placesWords: P1001.
func placesWords(s string) []wrap.Break {
	var places []wrap.Break
	l := clustersIn(s)
	for n := 1; n < len(l); n++ {
		if kind := kindWords(l[:n], l[n]); kind > 0 {
			places = append(places, wrap.Break{Sign: l[n].from, Kind: kind})
		}
	}
	if n := len(l); n > 0 && isLineEnd(l[n-1]) {
		places = append(places, wrap.Break{Sign: l[n-1].to, Kind: 1})
	}
	return places
}

// kindWords: the six rules.
func kindWords(ahead []cluster, y cluster) int {
	x, ahead := ahead[len(ahead)-1], ahead[:len(ahead)-1]
	if isLineEnd(x) {
		return 1
	}
	if isLineEnd(y) || isBlank(y) {
		return 0
	}
	if isBlank(x) {
		return 2
	}
	if isDash(x) && len(ahead) > 0 {
		z := ahead[len(ahead)-1]
		if !isBlank(z) && !isLineEnd(z) && !isDash(z) {
			return 2
		}
	}
	if (isWide(x) || isWide(y)) && !isOpening(x) && !isClosing(y) {
		return 2
	}
	return 3
}

// waysWords tells all ways of breaking a text.
func waysWords(s string) [][]wrap.Break {
	ways := [][]wrap.Break{nil}
	for _, p := range placesWords(s) {
		var more [][]wrap.Break
		for _, way := range ways {
			more = append(more, append(slices.Clone(way), p))
			if p.Kind != 1 {
				more = append(more, way)
			}
		}
		ways = more
	}
	return ways
}

func signsIn(s string) []string {
	var l []string
	for s != "" {
		_, n := utf8.DecodeRuneInString(s)
		l = append(l, s[:n])
		s = s[n:]
	}
	return l
}

// lineWords tells the text of a line.
func lineWords(line string) string {
	line = strings.TrimSuffix(line, "\n")
	l := clustersIn(line)
	for len(l) > 0 && isBlank(l[len(l)-1]) {
		line = strings.TrimSuffix(line, l[len(l)-1].text)
		l = l[:len(l)-1]
	}
	return line
}

// linesWords: P1004.
func linesWords(s string, way []wrap.Break) []string {
	var l []string
	signs, from := signsIn(s), 0
	for _, p := range way {
		l = append(l, lineWords(strings.Join(signs[from:p.Sign], "")))
		from = p.Sign
	}
	return append(l, lineWords(strings.Join(signs[from:], "")))
}

// badWords: P1003, of a way: its badness, and whether it fits.
func badWords(s string, width int, way []wrap.Break) (int64, bool) {
	sum := 0
	for _, line := range linesWords(s, way) {
		cells := cell.Of(line)
		if cells > width {
			return 0, false
		}
		sum += (width - cells) * (width - cells)
	}
	for _, p := range way {
		if p.Kind == 3 {
			sum += 1 << 20
		}
	}
	return int64(sum), true
}

// told is a way and its badness.
type told struct {
	way []wrap.Break
	n   int64
}

// compare: P1002: which one is to be taken.
func compare(x, y told) int {
	return cmp.Or(cmp.Compare(x.n, y.n), cmp.Compare(len(x.way), len(y.way)), slices.CompareFunc(x.way, y.way, func(p, q wrap.Break) int {
		return cmp.Compare(p.Sign, q.Sign)
	}))
}

// fitting tells all ways that fit.
func fitting(s string, width int) []told {
	var l []told
	for _, way := range waysWords(s) {
		if n, fits := badWords(s, width, way); fits {
			l = append(l, told{way, n})
		}
	}
	return l
}

// wrapWords: P1002.
func wrapWords(s string, width int) told {
	return slices.MinFunc(fitting(s, width), compare)
}

// wrapFronts is P1002 for texts with too many ways to go through: of each front up to a place the best way, from the first one on.
func wrapFronts(s string, width int) told {
	signs, places := signsIn(s), placesWords(s)
	end := wrap.Break{Sign: len(signs)}
	fronts := []told{{}}
	from := []int{0}
	for _, p := range append(slices.Clone(places), end) {
		var l []told
		for n := len(from) - 1; n >= 0; n-- {
			cells := cell.Of(lineWords(strings.Join(signs[from[n]:p.Sign], "")))
			if cells > width {
				continue
			}
			x := told{append(slices.Clone(fronts[n].way), p), fronts[n].n + int64((width-cells)*(width-cells))}
			if p.Kind == 3 {
				x.n += 1 << 20
			}
			l = append(l, x)
		}
		best := told{n: 1 << 60}
		if len(l) > 0 {
			best = slices.MinFunc(l, compare)
		}
		if p.Kind == 1 {
			fronts, from = nil, nil
		}
		fronts, from = append(fronts, best), append(from, p.Sign)
	}
	best := fronts[len(fronts)-1]
	return told{best.way[:len(best.way)-1], best.n}
}

// textWords: P1005, of a right text and a width that may be.
func textWords(t api.Text, width int) (api.Text, api.Errno) {
	l := clustersIn(t.S)
	stops := append(wrapFronts(t.S, width).way, wrap.Break{Sign: len(signsIn(t.S))})
	slices.Reverse(stops)
	for _, p := range stops {
		to, with := p.Sign, ""
		switch p.Kind {
		case 1:
			to--
		case 2, 3:
			with = "\n"
		}
		from := to
		for _, c := range slices.Backward(l) {
			if c.to == from && isBlank(c) {
				from = c.from
			}
		}
		if from == to && with == "" {
			continue
		}
		var e api.Errno
		if t, e = style.Splice(t, from, to, api.Text{S: with}); e != api.OK {
			return api.Text{}, e
		}
	}
	return t, api.OK
}

// pieces are signs of each class and some that grow into clusters, some of no cells and a bad one.
func pieces() []string {
	return []string{"a", " ", "\t", "\n", "-", "\u2014", "(", ")", "\u4e2d", "\u3002", "\u300c", "\u3000", "\u0301", "\u200d", "\U0001F1E6", "\x01", "\xe4"}
}

// texts goes over all texts of up to so many of some pieces.
func texts(l []string, most int) func(func(string) bool) {
	return func(yield func(string) bool) {
		row := []string{""}
		for range most + 1 {
			var longer []string
			for _, s := range row {
				if !yield(s) {
					return
				}
				for _, x := range l {
					longer = append(longer, s+x)
				}
			}
			row = longer
		}
	}
}

type maker struct{ dice *rand.Rand }

func newMaker(seed uint64) maker { return maker{rand.New(rand.NewPCG(seed, 10))} }

// string makes a text of up to so many pieces; few kinds of them at a time, so that rows of one kind come about.
func (m maker) string(most int, l ...string) string {
	var few []string
	for range 1 + m.dice.IntN(5) {
		few = append(few, l[m.dice.IntN(len(l))])
	}
	s := ""
	for range m.dice.IntN(most + 1) {
		s += few[m.dice.IntN(len(few))]
	}
	return s
}

// words makes a text of words with single blanks between.
func (m maker) words(most, longest int) string {
	var l []string
	for range m.dice.IntN(most + 1) {
		l = append(l, strings.Repeat("x", 1+m.dice.IntN(longest)))
	}
	return strings.Join(l, " ")
}

// over lays up to so many right spans over a text.
func (m maker) over(s string, most int) api.Text {
	t, n := api.Text{S: s}, len(signsIn(s))
	for range m.dice.IntN(most + 1) {
		from := m.dice.IntN(n + 1)
		x := api.Span{From: from, To: from + m.dice.IntN(n+1), Kind: 1 + m.dice.IntN(5)}
		if x.Kind == api.KColour {
			x.Value = m.dice.IntN(3)
		}
		y := api.Text{S: s, Spans: append(slices.Clone(t.Spans), x)}
		if style.Check(y) == api.OK {
			t = y
		}
	}
	return t
}
