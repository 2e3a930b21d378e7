package cell_test

import (
	"iter"
	"slices"
	"strings"
	"testing"

	"surtitle/api"
	"surtitle/cell"
	"surtitle/utf"
)

// parts are one of each kind of signs that the rules tell apart, and bytes that melt.
var parts = []string{
	"a", "\n", "\u0301", "\u200d", "\ufe0f", "\u2067",
	"\u4e2d", "\U0001f469", "\u231a", "\u2764", "\U0001f1e9",
	"\xff", "\xe4", "\xb8", "\xad",
}

// fewParts are those of which longer texts are made.
var fewParts = []string{"a", "\n", "\u0301", "\u200d", "\ufe0f", "\U0001f469", "\u2764", "\U0001f1e9"}

// samples are texts that are longer than what allTexts makes.
var samples = []string{
	"plain",
	"a line\nand another one\r\n",
	"\u4f60\u597d, \xe4\xbd world\u0301\u0302\u0303!",
	strings.Repeat("\U0001f469\u200d", 5) + "\U0001f4bb\U0001f3fd\ufe0f",
	strings.Repeat("\U0001f1e9", 7) + "\u200d" + strings.Repeat("\U0001f1ea", 3),
	"\u2764\u0301\ufe0f\u200d\U0001f525",
	"\u200d\u200d\U0001f469\u200d\n\u200d\U0001f469",
	"\u05e9\u05b8\u05dc\u05d5\u05b9\u05dd \u2067\u0627\u064e\u2069\u200e.",
	"\u1112\u1161\u11ab\ud55c\u1100",
	"\xf0\x9f\x91\xa9\xe2\x80\x8d\xf0\x9f\x92",
}

// allTexts goes over all texts of at most that many parts.
func allTexts(parts []string, most int) iter.Seq[string] {
	return func(yield func(string) bool) {
		var grow func(front string, left int) bool
		grow = func(front string, left int) bool {
			if !yield(front) {
				return false
			}
			if left == 0 {
				return true
			}
			for _, p := range parts {
				if !grow(front+p, left-1) {
					return false
				}
			}
			return true
		}
		grow("", most)
	}
}

// manyTexts goes over short texts of all kinds, and the samples.
func manyTexts(most int) iter.Seq[string] {
	return func(yield func(string) bool) {
		for _, s := range samples {
			if !yield(s) {
				return
			}
		}
		for s := range allTexts(parts, most) {
			if !yield(s) {
				return
			}
		}
	}
}

// belongs tells by P202's own words whether the last sign belongs to the cluster of those ahead of it.
func belongs(cluster []api.Sign, next rune) bool {
	first, ahead := cluster[0].Rune, cluster[len(cluster)-1].Rune
	if widthOf(next) == 0 && !isControl[next] && !isControl[first] {
		return true
	}
	if widthOf(next) == 2 && ahead == 0x200d && widthOf(first) == 2 {
		return true
	}
	return isFlag[next] && len(cluster) == 1 && isFlag[first]
}

// cellsOf tells a cluster's cells by P202's own words.
func cellsOf(cluster []api.Sign) int {
	if len(cluster) > 1 && isFlag[cluster[0].Rune] && isFlag[cluster[1].Rune] {
		return 2
	}
	for _, g := range cluster[1:] {
		if isSymbol[cluster[0].Rune] && g.Rune == 0xfe0f {
			return 2
		}
	}
	return widthOf(cluster[0].Rune)
}

// clustersOf tells a text's clusters by P202's own words.
func clustersOf(s string) []cell.Cluster {
	var l []cell.Cluster
	signs := slices.Collect(utf.Signs(s))
	for from := 0; from < len(signs); {
		to := from + 1
		for to < len(signs) && belongs(signs[from:to], signs[to].Rune) {
			to++
		}
		at, last := signs[from].At, signs[to-1]
		l = append(l, cell.Cluster{At: at, Len: last.At + last.Len - at, From: from, To: to, Cells: cellsOf(signs[from:to])})
		from = to
	}
	return l
}

func clusters(s string) []cell.Cluster { return slices.Collect(cell.Clusters(s)) }

func sum(l []cell.Cluster) int {
	n := 0
	for _, c := range l {
		n += c.Cells
	}
	return n
}

// TestClusters: P202 and P203, and the examples 2 to 4.
func TestClusters(t *testing.T) {
	for _, c := range []struct {
		s    string
		want []cell.Cluster
	}{
		{"", nil},
		{"e\u0301x", []cell.Cluster{{0, 3, 0, 2, 1}, {3, 1, 2, 3, 1}}},
		{"\u0301", []cell.Cluster{{0, 2, 0, 1, 0}}},
		{"\u0301\u0301a", []cell.Cluster{{0, 4, 0, 2, 0}, {4, 1, 2, 3, 1}}},
		{"\n\u0301", []cell.Cluster{{0, 1, 0, 1, 0}, {1, 2, 1, 2, 0}}},
		{"\r\n", []cell.Cluster{{0, 1, 0, 1, 0}, {1, 1, 1, 2, 0}}},
		{"a\n", []cell.Cluster{{0, 1, 0, 1, 1}, {1, 1, 1, 2, 0}}},
		{"\U0001f469\u200d\U0001f4bb", []cell.Cluster{{0, 11, 0, 3, 2}}},
		{"\U0001f469\u200d\U0001f4bb\U0001f4bb", []cell.Cluster{{0, 11, 0, 3, 2}, {11, 4, 3, 4, 2}}},
		{"\U0001f469\u200d\u0301\U0001f4bb", []cell.Cluster{{0, 9, 0, 3, 2}, {9, 4, 3, 4, 2}}},
		{"\U0001f469\u200da", []cell.Cluster{{0, 7, 0, 2, 2}, {7, 1, 2, 3, 1}}},
		{"a\u200d\u4e2d", []cell.Cluster{{0, 4, 0, 2, 1}, {4, 3, 2, 3, 2}}},
		{"\u200d\u4e2d", []cell.Cluster{{0, 3, 0, 1, 0}, {3, 3, 1, 2, 2}}},
		{"\u2764\ufe0f\u200d\U0001f525", []cell.Cluster{{0, 9, 0, 3, 2}, {9, 4, 3, 4, 2}}},
		{"\U0001f1e9\U0001f1ea\U0001f1e9", []cell.Cluster{{0, 8, 0, 2, 2}, {8, 4, 2, 3, 1}}},
		{"\U0001f1e9\u0301\U0001f1ea", []cell.Cluster{{0, 6, 0, 2, 1}, {6, 4, 2, 3, 1}}},
		{"\U0001f1e9\U0001f1ea\u0301\U0001f1e9", []cell.Cluster{{0, 10, 0, 3, 2}, {10, 4, 3, 4, 1}}},
		{"\u2764\ufe0f", []cell.Cluster{{0, 6, 0, 2, 2}}},
		{"\u2764\u0301\ufe0f", []cell.Cluster{{0, 8, 0, 3, 2}}},
		{"\u2764\ufe0e", []cell.Cluster{{0, 6, 0, 2, 1}}},
		{"a\ufe0f", []cell.Cluster{{0, 4, 0, 2, 1}}},
		{"\ufe0f\u2764", []cell.Cluster{{0, 3, 0, 1, 0}, {3, 3, 1, 2, 1}}},
		{"\xe4\xb8", []cell.Cluster{{0, 1, 0, 1, 1}, {1, 1, 1, 2, 1}}},
		{"\xe4\xb8\xad", []cell.Cluster{{0, 3, 0, 1, 2}}},
		{"\xff\u0301", []cell.Cluster{{0, 3, 0, 2, 1}}},
		{"a\u2067\u2069", []cell.Cluster{{0, 1, 0, 1, 1}, {1, 3, 1, 2, 0}, {4, 3, 2, 3, 0}}},
	} {
		if l := clusters(c.s); !slices.Equal(l, c.want) {
			t.Errorf("Clusters(%+q): %v; want %v", c.s, l, c.want)
		}
		if n := cell.Of(c.s); n != sum(c.want) {
			t.Errorf("Of(%+q): %d; want %d", c.s, n, sum(c.want))
		}
	}
}

// checkClusters holds a text's clusters against the document's words, and against what follows from them (P208, P209).
func checkClusters(t *testing.T, s string) {
	want := clustersOf(s)
	i, at, sign, cells := 0, 0, 0, 0
	for c := range cell.Clusters(s) {
		if i >= len(want) || c != want[i] {
			t.Fatalf("Clusters(%+q): %v, the one at %d; want %v", s, c, i, want)
		}
		if c.At != at || c.From != sign || c.To <= c.From {
			t.Fatalf("Clusters(%+q): %v behind byte %d, sign %d", s, c, at, sign)
		}
		i, at, sign, cells = i+1, c.At+c.Len, c.To, cells+c.Cells
	}
	if i != len(want) || at != len(s) || sign != utf.Count(s) {
		t.Fatalf("Clusters(%+q): %d up to byte %d, sign %d; want %v", s, i, at, sign, want)
	}
	if n := cell.Of(s); n != cells || n > 2*sign {
		t.Fatalf("Of(%+q): %d; want %d", s, n, cells)
	}
}

// TestClustersAny: P202, P203, P208 and P209, of many texts.
func TestClustersAny(t *testing.T) {
	for s := range manyTexts(4) {
		checkClusters(t, s)
	}
	for s := range allTexts(fewParts, 6) {
		checkClusters(t, s)
	}
}

// kind is what the rules tell apart of a rune.
type kind struct {
	width                 int
	control, flag, symbol bool
}

func kindOf(r rune) kind { return kind{widthOf(r), isControl[r], isFlag[r], isSymbol[r]} }

// tellingRunes goes over the runes of the shorter lists, those at each list's ends, and some of all others.
func tellingRunes() iter.Seq[rune] {
	return func(yield func(rune) bool) {
		for r := rune(0); r <= 0x10ffff; r++ {
			k := kindOf(r)
			listed := k.width == 0 || k.flag || k.symbol
			atEnd := k != kindOf(r-1) || k != kindOf(r+1)
			if (listed || atEnd || r%61 == 0) && !yield(r) {
				return
			}
		}
	}
}

// TestEachKind: P202: such runes ahead of and behind one of each kind.
func TestEachKind(t *testing.T) {
	for r := range tellingRunes() {
		x := string(r)
		for _, p := range parts {
			checkClusters(t, p+x)
			checkClusters(t, x+p)
		}
		checkClusters(t, "\u4e2d\u200d"+x)
		checkClusters(t, x+"\u200d\u4e2d")
	}
}

// moved tells clusters with their places moved.
func moved(l []cell.Cluster, bytes, signs int) []cell.Cluster {
	var out []cell.Cluster
	for _, c := range l {
		c.At, c.From, c.To = c.At+bytes, c.From+signs, c.To+signs
		out = append(out, c)
	}
	return out
}

// TestParts: P208: the clusters of a front and of the rest, at each cluster's end.
func TestParts(t *testing.T) {
	for s := range manyTexts(4) {
		all := clusters(s)
		for i, c := range all {
			front, rest := s[:c.At], s[c.At:]
			if !slices.Equal(clusters(front), all[:i]) || !slices.Equal(moved(clusters(rest), c.At, c.From), all[i:]) {
				t.Fatalf("%+q: %v and %v; want %v", s, clusters(front), clusters(rest), all)
			}
			if cell.Of(front)+cell.Of(rest) != cell.Of(s) {
				t.Fatalf("Of(%+q): %d; of its parts at %d: %d, %d", s, cell.Of(s), c.At, cell.Of(front), cell.Of(rest))
			}
		}
	}
}

// TestBehind: P210: what stands behind changes no cluster but the last one.
func TestBehind(t *testing.T) {
	for s := range manyTexts(3) {
		own := clusters(s)
		if len(own) == 0 {
			continue
		}
		for more := range manyTexts(1) {
			if utf.Melts(s, more) {
				continue
			}
			all := clusters(s + more)
			last := len(own) - 1
			if len(all) < len(own) || !slices.Equal(all[:last], own[:last]) || all[last].At != own[last].At {
				t.Fatalf("Clusters(%+q): %v; with %+q behind %v", s, own, more, all)
			}
		}
	}
}
