package wrap

import "surtitle/cell"

// spot is a place between clusters: in bytes, in signs, in cells from the text's beginning on.
type spot struct {
	at, sign, cells int
}

// part is a cluster as breaking sees it.
type part struct {
	spot  // where it begins
	class class
	wide  bool // also of a blank: rule 5, which alone asks, never gets to see one
}

// partsOf tells a text's clusters, and behind them its end.
func partsOf(s string) []part {
	var (
		l   []part
		end spot
	)
	for c := range cell.Clusters(s) {
		l = append(l, part{spot: end, wide: c.Cells == 2})
		end = spot{at: c.At + c.Len, sign: c.To, cells: end.cells + c.Cells}
	}
	l = append(l, part{spot: end, class: textEnd})
	classify(l, s)
	return l
}

// classify gives each cluster the class of its first sign.
func classify(l []part, s string) {
	n := 0
	for at, r := range s {
		if at == l[n].at {
			l[n].class = classOf(r)
			n++
		}
	}
}

// class is what its first sign makes of a cluster.
type class int

const (
	other class = iota
	lineEnd
	blank
	dash
	opening
	closing
	textEnd // no cluster, but what stands behind the last one
)

func classOf(r rune) class {
	switch r {
	case 0x000A:
		return lineEnd
	case 0x0009, 0x0020, 0x1680, 0x2000, 0x2001, 0x2002, 0x2003, 0x2004, 0x2005, 0x2006, 0x2008, 0x2009, 0x200A, 0x205F, 0x3000:
		return blank
	case 0x002D, 0x2010, 0x2012, 0x2013, 0x2014:
		return dash
	case 0x0028, 0x005B, 0x007B, 0x3008, 0x300A, 0x300C, 0x300E, 0x3010, 0x3014, 0xFF08, 0xFF3B, 0xFF5B:
		return opening
	case 0x0021, 0x0029, 0x002C, 0x002E, 0x003A, 0x003B, 0x003F, 0x005D, 0x007D,
		0x3001, 0x3002, 0x3009, 0x300B, 0x300D, 0x300F, 0x3011, 0x3015, 0x30FC,
		0xFF01, 0xFF09, 0xFF0C, 0xFF0E, 0xFF1A, 0xFF1B, 0xFF1F, 0xFF3D, 0xFF5D:
		return closing
	}
	return other
}
