package style_test

import (
	"math"
	"slices"
	"strings"
	"testing"

	"surtitle/api"
	"surtitle/style"
)

// TestCut: P706.
func TestCut(t *testing.T) {
	x := text("aé\xc3d", c(1, 1, 3), b(0, 4), c(2, 1, 3), c(3, 0, 4), i(1, 2))
	for _, k := range []struct {
		t        api.Text
		from, to int
		want     api.Text
		e        api.Errno
	}{
		{x, 0, 4, text("aé\xc3d", b(0, 4), c(3, 0, 4), c(1, 1, 3), c(2, 1, 3), i(1, 2)), api.OK},
		{x, 1, 3, text("é\xc3", b(0, 2), c(3, 0, 2), c(1, 0, 2), c(2, 0, 2), i(0, 1)), api.OK},
		{x, 2, 4, text("\xc3d", b(0, 2), c(3, 0, 2), c(1, 0, 1), c(2, 0, 1)), api.OK},
		{x, 0, 1, text("a", b(0, 1), c(3, 0, 1)), api.OK},
		{x, 3, 4, text("d", b(0, 1), c(3, 0, 1)), api.OK},
		{x, 0, 0, text(""), api.OK},
		{x, 2, 2, text(""), api.OK},
		{x, 4, 4, text(""), api.OK},
		{x, 0, 5, text(""), api.ErrArg},
		{x, 5, 5, text(""), api.ErrArg},
		{x, -1, 2, text(""), api.ErrArg},
		{x, -1, -1, text(""), api.ErrArg},
		{x, 3, 2, text(""), api.ErrArg},
		{x, math.MinInt, math.MaxInt, text(""), api.ErrArg},
		{x, math.MaxInt, math.MinInt, text(""), api.ErrArg},
		{text(""), 0, 0, text(""), api.OK},
		{text("abcd", b(1, 3)), 2, 4, text("cd", b(0, 1)), api.OK},
		// Outer ones come first by what they were, not by what is left of them.
		{text("abcd", i(2, 3), b(1, 4)), 2, 3, text("c", b(0, 1), i(0, 1)), api.OK},
		{text("abcd", i(2, 3), b(2, 4)), 2, 3, text("c", b(0, 1), i(0, 1)), api.OK},
		{text("abcd", i(2, 4), b(2, 4)), 2, 3, text("c", i(0, 1), b(0, 1)), api.OK},
		{text("abcd", i(2, 4), b(2, 4)), 0, 2, text("ab"), api.OK},
	} {
		y, e := style.Cut(k.t, k.from, k.to)
		hold(t, "Cut", y, e, k.want, k.e)
	}
}

// TestJoin: P707 and the example 5.
func TestJoin(t *testing.T) {
	x := text("abcd", i(2, 3), b(1, 3))
	for _, k := range []struct {
		a, b, want api.Text
		e          api.Errno
	}{
		{text(""), text(""), text(""), api.OK},
		{x, text(""), x, api.OK},
		{text(""), x, x, api.OK},
		{x, text("z", i(0, 1)), text("abcdz", i(2, 3), b(1, 3), i(4, 5)), api.OK},
		{text("é\xc3", c(1, 0, 2)), text("\xc3é", c(2, 1, 2), c(1, 0, 2)), text("é\xc3\xc3é", c(1, 0, 2), c(2, 3, 4), c(1, 2, 4)), api.OK},
		{text("\xc3"), text("\xa9"), text(""), api.ErrSeam},
		{text("\xe2\x82"), text("\xac"), text(""), api.ErrSeam},
		{text("\xe2"), text("\x82"), text("\xe2\x82"), api.OK},
		{text(full[1:]), text("x"), text(full), api.OK},
		{text(full), text(""), text(full), api.OK},
		{text(full), text("x"), text(""), api.ErrLong},
		{text(full), text(full), text(""), api.ErrLong},
		{text(full[1:] + "\xc3"), text("\xa9"), text(""), api.ErrLong},
		{text("a\xc3", heap(256)...), text("\xa9", heap(1)...), text(""), api.ErrSeam},
		{text("a", heap(256)...), text("b", heap(1)...), text(""), api.ErrMany},
		{text("a", heap(1)...), text("b", heap(256)...), text(""), api.ErrMany},
		{text("a", heap(256)...), text("b"), text("ab", heap(256)...), api.OK},
		{text("a", heap(255)...), text("b", heap(1)...), text("ab", append(heap(255), b(1, 2))...), api.OK},
	} {
		y, e := style.Join(k.a, k.b)
		hold(t, "Join", y, e, k.want, k.e)
	}
}

// TestSplice: P708 and the examples 4 and 5.
func TestSplice(t *testing.T) {
	x := text("abcd", b(1, 3))
	for _, k := range []struct {
		t        api.Text
		from, to int
		with     api.Text
		want     api.Text
		e        api.Errno
	}{
		{x, 1, 3, text("x"), text("axd", b(1, 2)), api.OK},
		{x, 1, 1, text("x"), text("axbcd", b(2, 4)), api.OK},
		{x, 2, 2, text("x"), text("abxcd", b(1, 4)), api.OK},
		{x, 3, 3, text("x"), text("abcxd", b(1, 3)), api.OK},
		{x, 0, 2, text("x"), text("xcd", b(1, 2)), api.OK},
		{x, 0, 0, text("xyz"), text("xyzabcd", b(4, 6)), api.OK},
		{x, 4, 4, text("xyz"), text("abcdxyz", b(1, 3)), api.OK},
		{x, 2, 4, text(""), text("ab", b(1, 2)), api.OK},
		{x, 2, 4, text("xyz"), text("abxyz", b(1, 2)), api.OK},
		{x, 1, 3, text(""), text("ad"), api.OK},
		{x, 0, 4, text("xyz"), text("xyz"), api.OK},
		{x, 0, 3, text("x"), text("xd"), api.OK},
		{x, 1, 4, text("x"), text("ax"), api.OK},
		{x, 1, 2, text("x"), text("axcd", b(1, 3)), api.OK},
		{x, 2, 3, text("xyz"), text("abxyzd", b(1, 5)), api.OK},
		{x, 3, 4, text("x"), text("abcx", b(1, 3)), api.OK},
		{x, 0, 1, text(""), text("bcd", b(0, 2)), api.OK},
		{x, 2, 2, text("xy", i(0, 1), u(1, 2)), text("abxycd", b(1, 5), i(2, 3), u(3, 4)), api.OK},
		{x, 1, 3, text("x", c(4, 0, 1)), text("axd", b(1, 2), c(4, 1, 2)), api.OK},
		{text("é\xc3d", c(1, 2, 3), b(0, 1)), 1, 2, text("é", u(0, 1)), text("ééd", b(0, 1), c(1, 2, 3), u(1, 2)), api.OK},
		// Outer ones come first, as they were; the inner one of two that become one stretch stands behind.
		{text("abcd", c(1, 1, 2), c(2, 0, 3)), 0, 1, text(""), text("bcd", c(2, 0, 2), c(1, 0, 1)), api.OK},
		{text("abcd", c(1, 1, 3), c(2, 1, 4)), 3, 4, text(""), text("abc", c(2, 1, 3), c(1, 1, 3)), api.OK},
		{text("abcd", c(1, 1, 3), c(2, 1, 3)), 3, 4, text(""), text("abc", c(1, 1, 3), c(2, 1, 3)), api.OK},
		{text(""), 0, 0, x, x, api.OK},
		{x, -1, 2, text(""), text(""), api.ErrArg},
		{x, 3, 2, text(""), text(""), api.ErrArg},
		{x, 2, 5, text(""), text(""), api.ErrArg},
		{x, math.MinInt, math.MaxInt, text(""), text(""), api.ErrArg},
		{x, 5, 5, text(full), text(""), api.ErrArg},
		{text("\xc3a\xa9"), 1, 2, text(""), text(""), api.ErrSeam},
		{text("\xc3a\xa9"), 1, 2, text("\xa9"), text(""), api.ErrSeam},
		{text("\xc3a\xa9"), 1, 2, text("\xc3"), text(""), api.ErrSeam},
		{text("\xc3a\xa9"), 1, 2, text("b"), text("\xc3b\xa9"), api.OK},
		{text("\xc3a\xa9"), 0, 2, text(""), text("\xa9"), api.OK},
		{text("\xe2a\xac"), 1, 2, text("\x82"), text(""), api.ErrSeam},
		{text("\xe2a\x82"), 1, 2, text(""), text("\xe2\x82"), api.OK},
		{text("\xf0a\x98\x80"), 1, 2, text("\x9f"), text(""), api.ErrSeam},
		{text(full), 0, 1, text("y"), text("y" + full[1:]), api.OK},
		{text(full), 0, 1, text("yz"), text(""), api.ErrLong},
		{text(full), 9, 9, text("y"), text(""), api.ErrLong},
		{text(full), 0, len(full), text(strings.Repeat("é", len(full)/2)), text(strings.Repeat("é", len(full)/2)), api.OK},
		{text(full[2:] + "\xc3a"), len(full) - 1, len(full), text("\xa9x"), text(""), api.ErrLong},
		{text("ab\xc3", heap(256)...), 3, 3, text("\xa9", heap(1)...), text(""), api.ErrSeam},
		{text("ab", heap(256)...), 1, 2, text("c", heap(1)...), text(""), api.ErrMany},
		{text("ab", heap(255)...), 1, 2, text("c", heap(1)...), text("ac", append(heap(255), b(1, 2))...), api.OK},
		// Spans that are no more do not count.
		{text("ab", heap(256)...), 0, 2, text("c", heap(256)...), text("c", heap(256)...), api.OK},
		{text("ab", heap(256)...), 0, 1, text("c", heap(1)...), text(""), api.ErrMany},
		{text("ab", append(heap(255), b(1, 2))...), 1, 2, text(""), text("a", heap(255)...), api.OK},
		{text("abc", append(heap(255), b(1, 2))...), 1, 3, text("d", heap(1)...), text("ad", append(heap(255), b(1, 2))...), api.OK},
		{text("abc", append(heap(255), b(1, 2))...), 1, 2, text("d", heap(1)...), text(""), api.ErrMany},
	} {
		y, e := style.Splice(k.t, k.from, k.to, k.with)
		hold(t, "Splice", y, e, k.want, k.e)
	}
}

// TestSet: P709 and the example 6.
func TestSet(t *testing.T) {
	bold := text("abcd", b(0, 4))
	for _, k := range []struct {
		t    api.Text
		x    api.Span
		want api.Text
		e    api.Errno
	}{
		{bold, i(1, 2), text("abcd", b(0, 4), i(1, 2)), api.OK},
		{bold, b(1, 2), bold, api.OK},
		{text("abcd", i(0, 2)), b(1, 3), text("abcd", i(0, 1), b(1, 3), i(1, 2)), api.OK},
		{text("abcd", c(1, 1, 2), c(2, 0, 3)), c(3, 0, 4), text("abcd", c(3, 0, 4)), api.OK},
		{text("abcd", c(1, 0, 4), c(2, 1, 3)), c(3, 2, 4), text("abcd", c(1, 0, 1), c(2, 1, 2), c(3, 2, 4)), api.OK},
		{text("abcd", c(1, 0, 4)), c(0, 1, 2), text("abcd", c(1, 0, 1), c(0, 1, 2), c(1, 2, 4)), api.OK},
		{text("abcd", c(1, 0, 4)), c(1, 1, 2), text("abcd", c(1, 0, 4)), api.OK},
		{text("abcd", k(0, 1), u(1, 2)), k(1, 4), text("abcd", k(0, 1), u(1, 2), k(1, 2), k(2, 4)), api.OK},
		{text("é\xc3"), u(0, 2), text("é\xc3", u(0, 2)), api.OK},
		{text("é\xc3"), u(0, 3), text(""), api.ErrSpan},
		{bold, b(3, 5), text(""), api.ErrSpan},
		{bold, b(2, 2), text(""), api.ErrSpan},
		{bold, b(3, 2), text(""), api.ErrSpan},
		{bold, b(-1, 2), text(""), api.ErrSpan},
		{bold, c(-1, 0, 2), text(""), api.ErrSpan},
		{bold, c(0x1000000, 0, 2), text(""), api.ErrSpan},
		{bold, c(0xFFFFFF, 0, 4), text("abcd", b(0, 4), c(0xFFFFFF, 0, 4)), api.OK},
		{bold, api.Span{To: 1, Kind: 6}, text(""), api.ErrSpan},
		{bold, api.Span{To: 1}, text(""), api.ErrSpan},
		{bold, api.Span{To: 1, Kind: api.KItalic, Value: 1}, text(""), api.ErrSpan},
		{text(""), b(0, 0), text(""), api.ErrSpan},
		{text("a", heap(256)...), i(0, 1), text("a", b(0, 1), i(0, 1)), api.OK},
	} {
		y, e := style.Set(k.t, k.x)
		hold(t, "Set", y, e, k.want, k.e)
	}
}

// TestSetMany: P709: as many spans as may be in normal form, and one more.
func TestSetMany(t *testing.T) {
	x := text(full[:600], comb(255)...)
	y, e := style.Set(x, b(511, 512))
	hold(t, "Set", y, e, text(full[:600], comb(256)...), api.OK)
	z, e := style.Set(y, b(513, 514))
	hold(t, "Set", z, e, api.Text{}, api.ErrMany)
	z, e = style.Set(y, b(0, 600))
	hold(t, "Set", z, e, text(full[:600], b(0, 600)), api.OK)
	z, e = style.Set(y, b(600, 601))
	hold(t, "Set", z, e, api.Text{}, api.ErrSpan)
	if !slices.Equal(x.Spans, comb(255)) {
		t.Error("the text was changed")
	}
}
