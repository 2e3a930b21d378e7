package bidi

// ruled is a row to which the rules are put, one behind the other: its clusters' classes by then, and its side.
type ruled struct {
	classes []int
	side    int
}

// resolve makes each class one of L, R, AN, EN.
func (w ruled) resolve() {
	w.marksTakeAhead()
	w.digitsBehindArabic()
	w.replace(1<<classAL, classR)
	w.partedNumbers()
	w.besideNumbers()
	w.replace(1<<classES|1<<classET|1<<classCS, classON)
	w.digitsBehindLeft()
	w.neutralsTakeSides()
}

// at tells the class at a place; in front of and behind the row the row's side.
func (w ruled) at(place int) int {
	if place < 0 || place >= len(w.classes) {
		return w.side
	}
	return w.classes[place]
}

// ahead makes a function that tells the last class of these kinds ahead of a place, as it is by then; the row's side, if there is none. It is to be asked from the left.
func (w ruled) ahead(of kinds) func(place int) int {
	last, next := w.side, 0
	return func(place int) int {
		for ; next < place; next++ {
			if of.has(w.classes[next]) {
				last = w.classes[next]
			}
		}
		return last
	}
}

// marksTakeAhead is rule 1.
func (w ruled) marksTakeAhead() {
	ahead := w.ahead(allKinds)
	for i, class := range w.classes {
		if class != classNM {
			continue
		}
		w.classes[i] = ahead(i)
		if isolates.has(w.classes[i]) {
			w.classes[i] = classON
		}
	}
}

// digitsBehindArabic is rule 2.
func (w ruled) digitsBehindArabic() {
	ahead := w.ahead(strong)
	for i, class := range w.classes {
		if class == classEN && ahead(i) == classAL {
			w.classes[i] = classAN
		}
	}
}

// replace lays down one class in the place of others (rules 3 and 6).
func (w ruled) replace(these kinds, by int) {
	for i, class := range w.classes {
		if these.has(class) {
			w.classes[i] = by
		}
	}
}

// partedNumbers is rule 4.
func (w ruled) partedNumbers() {
	for i, class := range w.classes {
		ahead := w.at(i - 1)
		if ahead != w.at(i+1) {
			continue
		}
		switch {
		case class == classES && ahead == classEN,
			class == classCS && (ahead == classEN || ahead == classAN):
			w.classes[i] = ahead
		}
	}
}

// besideNumbers is rule 5.
func (w ruled) besideNumbers() {
	for from, to := range stretches(w.classes, kinds(1<<classET).has) {
		if w.at(from-1) == classEN || w.at(to) == classEN {
			w.fill(from, to, classEN)
		}
	}
}

// digitsBehindLeft is rule 7.
func (w ruled) digitsBehindLeft() {
	ahead := w.ahead(strong)
	for i, class := range w.classes {
		if class == classEN && ahead(i) == classL {
			w.classes[i] = classL
		}
	}
}

// neutralsTakeSides is rule 8's first part.
func (w ruled) neutralsTakeSides() {
	for from, to := range stretches(w.classes, neutrals.has) {
		ahead, behind := pull(w.at(from-1)), pull(w.at(to))
		if ahead == behind {
			w.fill(from, to, ahead)
		} else {
			w.fill(from, to, w.side)
		}
	}
}

func (w ruled) fill(from, to, class int) {
	for i := from; i < to; i++ {
		w.classes[i] = class
	}
}

// pull tells how neutrals see their neighbour: numbers go with what goes to the left.
func pull(class int) int {
	if class == classL {
		return classL
	}
	return classR
}
