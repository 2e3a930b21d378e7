package cell

import (
	"strings"
	"surtitle/api"
)

// Cut tells the front of a text that has so many cells at most, and the rest.
func Cut(s string, cells int) (string, string, api.Errno) {
	if cells < 0 {
		return "", "", api.ErrArg
	}
	end, sum := 0, 0
	for c := range Clusters(s) {
		sum += c.Cells
		if sum > cells {
			break
		}
		end = c.At + c.Len
	}
	return strings.Clone(s[:end]), strings.Clone(s[end:]), api.OK
}

// Column tells ahead of which cell a sign stands.
func Column(s string, sign int) (int, api.Errno) {
	if sign < 0 {
		return 0, api.ErrArg
	}
	sum, signs := 0, 0
	for c := range Clusters(s) {
		signs = c.To
		if signs > sign {
			return sum, api.OK
		}
		sum += c.Cells
	}
	if sign > signs {
		return 0, api.ErrArg
	}
	return sum, api.OK
}

// Sign tells the first sign of the cluster over a cell.
func Sign(s string, column int) (int, api.Errno) {
	if column < 0 {
		return 0, api.ErrArg
	}
	sum, signs := 0, 0
	for c := range Clusters(s) {
		sum += c.Cells
		if sum > column {
			return c.From, api.OK
		}
		signs = c.To
	}
	if column > sum {
		return 0, api.ErrArg
	}
	return signs, api.OK
}

// Pad fills a text up with blanks: so many of ten parts ahead.
func Pad(s string, cells, ahead int) (string, api.Errno) {
	if cells < 0 || cells > api.MaxWidth || ahead < 0 || ahead > 10 {
		return "", api.ErrArg
	}
	lack := cells - Of(s)
	if lack <= 0 {
		return strings.Clone(s), api.OK
	}
	front := lack * ahead / 10
	return strings.Repeat(" ", front) + s + strings.Repeat(" ", lack-front), api.OK
}
