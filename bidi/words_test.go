package bidi_test

import (
	"slices"
	"surtitle/cell"
	"surtitle/utf"
)

// The rules of P403, P404 as the document's words say them, without regard to how long they take.

// paragraph is one's classes at first, and of each opening cluster the place of the one that closes it, or of the end of what is inside.
type paragraph struct {
	classes []int
	end     map[int]int
}

// classesOf tells the class of each cluster of a text.
func classesOf(s string) []int {
	signs := slices.Collect(utf.Signs(s))
	var l []int
	for c := range cell.Clusters(s) {
		l = append(l, classOf(signs[c.From].Rune))
	}
	return l
}

// paragraphsOf tells a text's paragraphs.
func paragraphsOf(s string) []paragraph {
	var all []paragraph
	var l []int
	for _, class := range classesOf(s) {
		l = append(l, class)
		if class == cB {
			all = append(all, matched(l))
			l = nil
		}
	}
	if len(l) > 0 {
		all = append(all, matched(l))
	}
	return all
}

// matched tells a paragraph with its isolates.
func matched(l []int) paragraph {
	p := paragraph{l, map[int]int{}}
	var open, plain []int
	for i, class := range l {
		switch class {
		case cLI, cRI, cFI:
			if len(open) == 60 {
				plain = append(plain, i)
			} else {
				open = append(open, i)
			}
		case cPI:
			if len(plain) > 0 {
				plain = plain[:len(plain)-1]
			} else if len(open) > 0 {
				p.end[open[len(open)-1]] = i
				open = open[:len(open)-1]
			}
		}
	}
	end := len(l)
	if l[end-1] == cB {
		end--
	}
	for _, i := range open {
		p.end[i] = end
	}
	return p
}

// row tells the places that stand in the row of what is from a place on, ahead of another.
func (p paragraph) row(from, to int) []int {
	var l []int
	for i := from; i < to; {
		l = append(l, i)
		if end, opens := p.end[i]; opens {
			i = end
		} else {
			i++
		}
	}
	return l
}

// first tells the first class L, R or AL of a row; 0: none.
func (p paragraph) first(row []int) int {
	for _, i := range row {
		if c := p.classes[i]; c == cL || c == cR || c == cAL {
			return c
		}
	}
	return 0
}

// baseOf tells what Base is to tell.
func baseOf(s string, otherwise int) int {
	all := paragraphsOf(s)
	if len(all) == 0 {
		return otherwise
	}
	p := all[0]
	switch p.first(p.row(0, len(p.classes))) {
	case cL:
		return 0
	case cR, cAL:
		return 1
	}
	return otherwise
}

// levelsOf tells what Levels is to tell.
func levelsOf(s string, base int) []int {
	var all []int
	for _, p := range paragraphsOf(s) {
		l := make([]int, len(p.classes))
		p.lay(l, p.row(0, len(l)), base)
		p.layEnds(l, base)
		all = append(all, l...)
	}
	return all
}

// lay lays down the levels of a row at the level e, and of those inside.
func (p paragraph) lay(levels, row []int, e int) {
	var l []int
	for _, i := range row {
		l = append(l, p.classes[i])
	}
	side := cL
	if e%2 == 1 {
		side = cR
	}
	earlyRules(l, side)
	lateRules(l, side)
	for k, i := range row {
		switch {
		case e%2 == 0 && l[k] == cR:
			levels[i] = e + 1
		case e%2 == 0 && (l[k] == cAN || l[k] == cEN):
			levels[i] = e + 2
		case e%2 == 1 && l[k] != cR:
			levels[i] = e + 1
		default:
			levels[i] = e
		}
		if end, opens := p.end[i]; opens {
			p.layInside(levels, i, end, e)
		}
	}
}

// layInside lays down the levels inside of an isolate.
func (p paragraph) layInside(levels []int, opener, end, e int) {
	row := p.row(opener+1, end)
	class := p.classes[opener]
	if class == cFI {
		class = cLI
		if first := p.first(row); first == cR || first == cAL {
			class = cRI
		}
	}
	want := 0
	if class == cRI {
		want = 1
	}
	inner := e + 1
	for inner%2 != want {
		inner++
	}
	p.lay(levels, row, inner)
}

// layEnds is rule 9.
func (p paragraph) layEnds(levels []int, base int) {
	for i, class := range p.classes {
		switch class {
		case cS, cB:
			levels[i] = base
		case cWS, cLI, cRI, cFI, cPI:
			k := i
			for k < len(p.classes) && slices.Contains([]int{cWS, cLI, cRI, cFI, cPI}, p.classes[k]) {
				k++
			}
			if k == len(p.classes) || p.classes[k] == cS || p.classes[k] == cB {
				levels[i] = base
			}
		}
	}
}

// at tells a row's class at a place; its side in front and behind.
func at(l []int, side, i int) int {
	if i < 0 || i >= len(l) {
		return side
	}
	return l[i]
}

// last tells the last of some classes ahead of a place; the row's side, if there is none.
func last(l []int, side, i int, of ...int) int {
	for i--; i >= 0; i-- {
		if slices.Contains(of, l[i]) {
			return l[i]
		}
	}
	return side
}

// earlyRules are 1 to 4.
func earlyRules(l []int, side int) {
	for i := range l {
		if l[i] == cNM {
			l[i] = at(l, side, i-1)
			if l[i] >= cLI && l[i] <= cPI {
				l[i] = cON
			}
		}
	}
	for i := range l {
		if l[i] == cEN && last(l, side, i, cL, cR, cAL) == cAL {
			l[i] = cAN
		}
	}
	for i := range l {
		if l[i] == cAL {
			l[i] = cR
		}
	}
	for i := range l {
		a, b := at(l, side, i-1), at(l, side, i+1)
		if (l[i] == cES || l[i] == cCS) && a == cEN && b == cEN {
			l[i] = cEN
		}
		if l[i] == cCS && a == cAN && b == cAN {
			l[i] = cAN
		}
	}
}

// stretch tells the ends of the stretch of some classes about a place.
func stretch(l []int, i int, of ...int) (int, int) {
	from, to := i, i
	for from > 0 && slices.Contains(of, l[from-1]) {
		from--
	}
	for to < len(l) && slices.Contains(of, l[to]) {
		to++
	}
	return from, to
}

// lateRules are 5 to 8.
func lateRules(l []int, side int) {
	was := slices.Clone(l)
	for i := range l {
		if was[i] == cET {
			from, to := stretch(was, i, cET)
			if at(was, side, from-1) == cEN || at(was, side, to) == cEN {
				l[i] = cEN
			}
		}
	}
	for i := range l {
		if l[i] == cES || l[i] == cET || l[i] == cCS {
			l[i] = cON
		}
	}
	for i := range l {
		if l[i] == cEN && last(l, side, i, cL, cR) == cL {
			l[i] = cL
		}
	}
	was = slices.Clone(l)
	for i := range l {
		from, to := stretch(was, i, cB, cS, cWS, cON, cLI, cRI, cFI, cPI)
		if from > i || to <= i {
			continue
		}
		a, b := at(was, side, from-1), at(was, side, to)
		right := func(class int) bool { return class == cR || class == cAN || class == cEN }
		switch {
		case a == cL && b == cL:
			l[i] = cL
		case right(a) && right(b):
			l[i] = cR
		default:
			l[i] = side
		}
	}
}
