package dual

import (
	"cmp"
	"slices"

	"surtitle/api"
	"surtitle/ratio"
)

// sharing tells by what to ask how many thousandths a cue of a and one of b share; not above 0: nothing.
func sharing(a, b []api.Cue) func(i, j int) int64 {
	ours, theirs := stretches(a), stretches(b)
	return func(i, j int) int64 {
		x, y := ours[i], theirs[j]
		// What is rounded keeps the order of the times: the lesser thousandths are those of the lesser time.
		return min(x.to, y.to) - max(x.from, y.from)
	}
}

// stretch is when a cue is active, in thousandths.
type stretch struct {
	from, to int64
}

func stretches(l []api.Cue) []stretch {
	var all []stretch
	for _, c := range l {
		all = append(all, stretch{thousandths(c.Start), thousandths(c.End)})
	}
	return all
}

// thousandths tells those of a time, of which there are never too many.
func thousandths(t api.Ratio) int64 {
	n, _ := ratio.Whole(t, 1000, api.HNear)
	return n
}

// row is what a row of pairs comes to: what they share, how many they are; and its first pair.
// The rest of the row is not kept: it is the best one of the cues behind that pair.
type row struct {
	sum   int64
	many  int
	first [2]int
}

// behind tells the row with one more pair ahead of it.
func (x row) behind(p [2]int, share int64) row {
	return row{sum: x.sum + share, many: x.many + 1, first: p}
}

// better tells the better one of two rows, each the best one of those with its first pair.
func better(x, y row) row {
	order := cmp.Or(cmp.Compare(y.sum, x.sum), cmp.Compare(y.many, x.many), slices.Compare(x.first[:], y.first[:]))
	if order <= 0 {
		return x
	}
	return y
}

// table keeps the best row of pairs for the cues of one document from each one on, and those of the other one from each one on.
type table struct {
	rows [][]row
	none [2]int // the first pair of a row without any: it comes behind all others
}

// newTable goes from the last cues to the first, so that what stands behind a pair is known by then.
func newTable(ours, theirs int, share func(i, j int) int64) table {
	t := table{none: [2]int{ours, theirs}}
	for range ours + 1 {
		t.rows = append(t.rows, slices.Repeat([]row{{first: t.none}}, theirs+1))
	}
	for i := ours - 1; i >= 0; i-- {
		for j := theirs - 1; j >= 0; j-- {
			best := better(t.rows[i][j+1], t.rows[i+1][j])
			if n := share(i, j); n > 0 {
				best = better(t.rows[i+1][j+1].behind([2]int{i, j}, n), best)
			}
			t.rows[i][j] = best
		}
	}
	return t
}

// pairs tells the best row of all cues.
func (t table) pairs() [][2]int {
	var l [][2]int
	for p := t.rows[0][0].first; p != t.none; p = t.rows[p[0]+1][p[1]+1].first {
		l = append(l, p)
	}
	return l
}
