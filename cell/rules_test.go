package cell_test

import (
	"slices"
	"strings"
	"testing"
	"unsafe"

	"surtitle/cell"
)

// TestSequence: P6: the clusters may be left early, ranged over again, and within themselves.
func TestSequence(t *testing.T) {
	seq := cell.Clusters("e\u0301\n\u4e2d")
	for range 2 {
		for range seq {
			break
		}
	}
	n := 0
	for a := range seq {
		for b := range seq {
			n += (a.To + 1) * (b.At + 1)
		}
	}
	if n != (3+4+5)*(1+4+5) {
		t.Errorf("within itself: %d", n)
	}
	want := []cell.Cluster{{0, 3, 0, 2, 1}, {3, 1, 2, 3, 0}, {4, 3, 3, 4, 2}}
	if l := slices.Collect(seq); !slices.Equal(l, want) {
		t.Errorf("again: %v; want %v", l, want)
	}
}

// within tells whether a text lies in the memory of another one.
func within(part, s string) bool {
	at, from := uintptr(unsafe.Pointer(unsafe.StringData(part))), uintptr(unsafe.Pointer(unsafe.StringData(s)))
	return part != "" && at >= from && at < from+uintptr(len(s))
}

// TestTextsAreNew: P2: texts that are answered are new memory.
func TestTextsAreNew(t *testing.T) {
	s := strings.Repeat("a line of text", 5)
	front, rest, _ := cell.Cut(s, 30)
	whole, _, _ := cell.Cut(s, 200)
	same, _ := cell.Pad(s, 10, 5)
	full, _ := cell.Pad(s, len(s), 5)
	padded, _ := cell.Pad(s, 100, 0)
	for i, x := range []string{front, rest, whole, same, full, padded} {
		if within(x, s) {
			t.Errorf("the answer %d shares the text's memory", i)
		}
	}
}
