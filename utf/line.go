package utf

import (
	"iter"
	"strings"
)

// Lines goes over a file's lines: where each begins, and what it is without its end.
func Lines(s string) iter.Seq2[int, string] {
	return func(yield func(int, string) bool) {
		for at := 0; at < len(s); {
			end := lineEnd(s, at)
			if !yield(at, strings.Clone(s[at:end])) {
				return
			}
			at = end + endLen(s[end:])
		}
	}
}

// lineEnd tells where the line that begins at a place ends.
func lineEnd(s string, at int) int {
	for at < len(s) && s[at] != '\n' && s[at] != '\r' {
		at++
	}
	return at
}

// endLen tells the length of the line end with which s begins; 0, if s is empty.
func endLen(s string) int {
	if strings.HasPrefix(s, "\r\n") {
		return 2
	}
	return min(len(s), 1)
}
