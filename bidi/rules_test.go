package bidi_test

import (
	"slices"
	"strings"
	"testing"
	"unsafe"

	"surtitle/bidi"
)

// TestHandedIn: P2: levels that are handed in are neither changed, their spare room too, nor kept.
func TestHandedIn(t *testing.T) {
	room := []int{0, 1, 2, 1, 77, 78}
	order := bidi.Order(room[:4])
	if !slices.Equal(room, []int{0, 1, 2, 1, 77, 78}) {
		t.Errorf("the levels were changed: %v", room)
	}
	clear(room)
	if !slices.Equal(order, []int{0, 3, 2, 1}) {
		t.Errorf("the levels were kept: %v", order)
	}
}

// TestAnswers: P2 and P3: answers share no memory, nor spare room, and are the same again.
func TestAnswers(t *testing.T) {
	s := "a" + r1 + "1\n" + ri + r2
	want := []int{0, 1, 2, 0, 0, 1}
	first, _ := bidi.Levels(s, 0)
	other, _ := bidi.Levels(s, 0)
	clear(first[:cap(first)])
	again, _ := bidi.Levels(s, 0)
	if !slices.Equal(other, want) || !slices.Equal(again, want) {
		t.Errorf("Levels share: %v, %v; want %v", other, again, want)
	}
	order, more := bidi.Order(want), bidi.Order(want)
	clear(order[:cap(order)])
	if !slices.Equal(more, orderOf(want)) || !slices.Equal(bidi.Order(want), more) {
		t.Errorf("Order shares: %v", more)
	}
}

// within tells whether a text lies in the memory of another one.
func within(part, s string) bool {
	at, from := uintptr(unsafe.Pointer(unsafe.StringData(part))), uintptr(unsafe.Pointer(unsafe.StringData(s)))
	return part != "" && at >= from && at < from+uintptr(len(s))
}

// TestTextsAreNew: P2: a text that is answered is new memory.
func TestTextsAreNew(t *testing.T) {
	s := strings.Repeat("a line of text", 5)
	if v, _ := bidi.Visual(s, 0); within(v, s) {
		t.Error("Visual shares the text's memory")
	}
}

// TestLong: P1: long texts end soon, whatever their digits, neutrals and isolates lean on.
func TestLong(t *testing.T) {
	for _, part := range []string{"1", "!", "$", ri, ri + pi, "\t" + nm, " ", "\n", r1, "\xff"} {
		s := strings.Repeat(part, 100000)
		for base := range 2 {
			l, _ := bidi.Levels(s, base)
			if len(bidi.Order(l)) != len(l) {
				t.Errorf("Order of %+q: %d of %d", part, len(bidi.Order(l)), len(l))
			}
			bidi.Visual(s, base)
		}
		bidi.Base(s, 0)
	}
}
