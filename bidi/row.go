package bidi

// maxDepth is how many isolates can be open at once.
const maxDepth = 60

// row is clusters that are ordered together: those of a paragraph, or of an isolate, without those inside of isolates that are opened among them.
type row struct {
	places []int // of its clusters, rising
	outer  int   // the number of the row in which it was opened
	opener int   // the class of what opened it; of a paragraph's own row 0
	level  int
}

// rowsOf tells the rows of a paragraph, each behind the one in which it was opened; the paragraph's own comes first.
func rowsOf(classes []int) []row {
	rows := []row{{}}
	open := []int{0}
	plain := 0
	for at, class := range classes {
		switch {
		case class == classB:
			open = open[:1]
		case class == classPI && plain > 0:
			plain--
		case class == classPI && len(open) > 1:
			open = open[:len(open)-1]
		}
		last := open[len(open)-1]
		rows[last].places = append(rows[last].places, at)
		switch {
		case !openers.has(class):
		case len(open) > maxDepth:
			plain++
		default:
			open = append(open, len(rows))
			rows = append(rows, row{outer: last, opener: class})
		}
	}
	return rows
}

// firstStrong tells a row's first class that has a direction; 0, if it has none.
func (w row) firstStrong(classes []int) int {
	for _, at := range w.places {
		if strong.has(classes[at]) {
			return classes[at]
		}
	}
	return 0
}

// goesLeft tells whether what an isolate's opener asks for goes to the left.
func (w row) goesLeft(classes []int) bool {
	if w.opener != classFI {
		return w.opener == classRI
	}
	first := w.firstStrong(classes)
	return first == classR || first == classAL
}

// levelInside tells the least level above that of the outer row that goes as is asked for.
func levelInside(outer int, left bool) int {
	if isOdd(outer+1) == left {
		return outer + 1
	}
	return outer + 2
}

// layLevels lays down the levels of a paragraph's clusters.
func layLevels(levels, classes []int, base int) {
	rows := rowsOf(classes)
	rows[0].level = base
	for i, w := range rows {
		if i > 0 {
			w.level = levelInside(rows[w.outer].level, w.goesLeft(classes))
			rows[i].level = w.level
		}
		w.layLevels(levels, classes)
	}
	layEnds(levels, classes, base)
}

// layLevels lays down the levels of a row's clusters.
func (w row) layLevels(levels, classes []int) {
	own := ruled{side: sideOf(w.level)}
	for _, at := range w.places {
		own.classes = append(own.classes, classes[at])
	}
	own.resolve()
	for i, at := range w.places {
		levels[at] = levelOf(own.classes[i], w.level)
	}
}

// layEnds lays down, by the classes that clusters had at first, the base for ends, and for blanks and isolates' signs ahead of them (rule 9).
func layEnds(levels, classes []int, base int) {
	atEnd := true
	for i := len(classes) - 1; i >= 0; i-- {
		atEnd = partEnds.has(classes[i]) || atEnd && trailing.has(classes[i])
		if atEnd {
			levels[i] = base
		}
	}
}

// sideOf tells the class that stands at both ends of a row.
func sideOf(level int) int {
	if isOdd(level) {
		return classR
	}
	return classL
}

// levelOf tells the level of a cluster that is L, R, AN or EN by the rules, in a row at that level.
func levelOf(class, row int) int {
	switch {
	case class == sideOf(row):
		return row
	case isOdd(row), class == classR:
		return row + 1
	}
	return row + 2
}
