package mark_test

import (
	"math"
	"slices"
	"strings"
	"testing"

	"surtitle/api"
	"surtitle/mark"
	"surtitle/style"
)

func b(from, to int) api.Span { return api.Span{From: from, To: to, Kind: api.KBold} }

func i(from, to int) api.Span { return api.Span{From: from, To: to, Kind: api.KItalic} }

func u(from, to int) api.Span { return api.Span{From: from, To: to, Kind: api.KUnder} }

func k(from, to int) api.Span { return api.Span{From: from, To: to, Kind: api.KStrike} }

func c(value, from, to int) api.Span {
	return api.Span{From: from, To: to, Kind: api.KColour, Value: value}
}

func text(s string, l ...api.Span) api.Text { return api.Text{S: s, Spans: l} }

func plain(s string, l ...api.Span) mark.Marked { return mark.Marked{Text: text(s, l...)} }

func named(name, s string, l ...api.Span) mark.Marked {
	return mark.Marked{Name: name, Text: text(s, l...)}
}

func high(s string, l ...api.Span) mark.Marked {
	return mark.Marked{Side: api.High, Text: text(s, l...)}
}

func dialects() []int { return []int{api.DAngle, api.DVoice, api.DPipe, api.DBrace} }

// noDialects are numbers that name none.
func noDialects() []int { return []int{0, 5, -1, math.MinInt, math.MaxInt} }

// comb is n spans of a sign each, with a sign ahead of each.
func comb(n int) []api.Span {
	var l []api.Span
	for at := range n {
		l = append(l, b(2*at+1, 2*at+2))
	}
	return l
}

// dense is a right text of 256 spans, whose normal form would have more.
func dense() api.Text {
	x := text(strings.Repeat("x", 300), i(0, 300))
	x.Spans = append(x.Spans, comb(140)...)
	return x
}

func sameText(x, y api.Text) bool { return x.S == y.S && slices.Equal(x.Spans, y.Spans) }

// hold complains if what is marked is not what it should be.
func hold(t *testing.T, what string, got mark.Marked, e api.Errno, want mark.Marked, wantE api.Errno) {
	t.Helper()
	if e != wantE || got.Name != want.Name || got.Side != want.Side || !sameText(got.Text, want.Text) {
		t.Errorf("%s: %+v, %v; want %+v, %v", what, got, e, want, wantE)
	}
}

// holdParse complains if a text is not read as it should be.
func holdParse(t *testing.T, dialect int, s string, want mark.Marked) {
	t.Helper()
	m, e := mark.Parse(dialect, s)
	hold(t, s, m, e, want, api.OK)
}

// TestParseAngle: P801 of DAngle, and the example 1.
func TestParseAngle(t *testing.T) {
	for s, want := range map[string]mark.Marked{
		"":                                plain(""),
		"a\nb":                            plain("a\nb"),
		"a<b>b<i>c</b>d</i></i>":          plain("abcd</i>", b(1, 3), i(2, 3), i(3, 4)),
		"\xc3<b>\xa9":                     plain("\xc3<b>\xa9"),
		"<b>a":                            plain("a", b(0, 1)),
		"<b>":                             plain(""),
		"</b>a":                           plain("</b>a"),
		"<i>a</b>b":                       plain("a</b>b", i(0, 6)),
		"<b><b>a</b>b</b>c":               plain("abc", b(0, 2)),
		"<b>a</b></b>":                    plain("a</b>", b(0, 1)),
		"<b></b>a":                        plain("a"),
		"<b>a</b><b>b</b>":                plain("ab", b(0, 2)),
		"<u>a</u><s>b</s>":                plain("ab", u(0, 1), k(1, 2)),
		"<i>a</i>":                        plain("a", i(0, 1)),
		"<B>a</B><b >x< b>":               plain("<B>a</B><b >x< b>"),
		"<<b>>":                           plain("<>", b(1, 2)),
		"<b":                              plain("<b"),
		"a<":                              plain("a<"),
		"<v Ann>x&amp;|{y:b}\\N":          plain("<v Ann>x&amp;|{y:b}\\N"),
		`<font color="#12aBcF">a</font>b`: plain("ab", c(0x12abcf, 0, 1)),
		`<font color="#000000">a`:         plain("a", c(0, 0, 1)),
		`<font color="#ffffff">a`:         plain("a", c(0xffffff, 0, 1)),
		`<font color="#000001">a<font color="#000002">b</font>c</font>d</font>`: plain("abcd</font>", c(1, 0, 1), c(2, 1, 2), c(1, 2, 3)),
		`<font color="#00000g">a`:                     plain(`<font color="#00000g">a`),
		`<font color="#+00001">a`:                     plain(`<font color="#+00001">a`),
		`<font color="#0x0001">a`:                     plain(`<font color="#0x0001">a`),
		`<font color="#0_0001">a`:                     plain(`<font color="#0_0001">a`),
		`<font color="#00001">a`:                      plain(`<font color="#00001">a`),
		`<font color="#0000001">a`:                    plain(`<font color="#0000001">a`),
		`<font color=#000001>a</font>`:                plain(`<font color=#000001>a</font>`),
		`<font color="#000001" >a</font>`:             plain(`<font color="#000001" >a</font>`),
		`<font>a</font>`:                              plain(`<font>a</font>`),
		`<c.000001>a</c>`:                             plain(`<c.000001>a</c>`),
		`<font color="#00000`:                         plain(`<font color="#00000`),
		`<b>x<font color="#000009">y</b>z</font>w`:    plain("xyzw", b(0, 2), c(9, 1, 2), c(9, 2, 3)),
		"\x00<i>\x1f\r\ufffd\xff</i>":                 plain("\x00\x1f\r\ufffd\xff", i(1, 5)),
		"<font color=\"#000001\">\xc3</font>\xa9<b>x": plain("\xc3</font>\xa9x", c(1, 0, 9), b(9, 10), c(1, 9, 10)),
	} {
		holdParse(t, api.DAngle, s, want)
	}
}

// TestParseVoice: P801 of DVoice, and the example 2.
func TestParseVoice(t *testing.T) {
	most := strings.Repeat("é", 32)
	for s, want := range map[string]mark.Marked{
		"":                                     plain(""),
		"<v Ann &amp; Bo>x &lt; y":             named("Ann & Bo", "x < y"),
		"<v >x":                                plain("<v >x"),
		"<v>x":                                 plain("<v>x"),
		"<v":                                   plain("<v"),
		"<v ":                                  plain("<v "),
		"<v Ann":                               plain("<v Ann"),
		"<v Ann&gt;x":                          plain("<v Ann>x"),
		"<v Ann>":                              named("Ann", ""),
		"<v  >":                                named(" ", ""),
		"<v Ann><v Bo>x":                       named("Ann", "<v Bo>x"),
		"x<v Ann>":                             plain("x<v Ann>"),
		"<b><v Ann>x":                          plain("<v Ann>x", b(0, 8)),
		"&lt;v Ann>x":                          plain("<v Ann>x"),
		"<v a<b>c":                             named("a<b", "c"),
		"<v &lt;&gt;&amp;&amp;lt;>x":           named("<>&&lt;", "x"),
		"<v &nbsp;&lrm;&rlm;&x;>y":             named("\u00a0\u200e\u200f&x;", "y"),
		"<v \xc3>\xa9":                         named("\xc3", "\xa9"),
		"<v a\tb>x":                            plain("<v a\tb>x"),
		"<v a\nb>x":                            plain("<v a\nb>x"),
		"<v a\x1fb>&amp;":                      plain("<v a\x1fb>&"),
		"<v a\x7fb>x":                          named("a\x7fb", "x"),
		"<v a|b,c\\>x":                         named("a|b,c\\", "x"),
		"<v " + most + ">x":                    named(most, "x"),
		"<v " + most + "a>x":                   plain("<v " + most + "a>x"),
		"<v " + most[2:] + "&amp;a>x":          named(most[2:]+"&a", "x"),
		"<v " + most[2:] + "&nbsp;a>x":         plain("<v " + most[2:] + "\u00a0a>x"),
		"&lt;&gt;&amp;&nbsp;&lrm;&rlm;":        plain("<>&\u00a0\u200e\u200f"),
		"&LT;&lt&amp &quot;&;&#60;":            plain("&LT;&lt&amp &quot;&;&#60;"),
		"&amp;lt;":                             plain("&lt;"),
		"&amp;amp;":                            plain("&amp;"),
		"<b>a</b><i>b</i><u>c</u>":             plain("abc", b(0, 1), i(1, 2), u(2, 3)),
		"<s>a</s>":                             plain("<s>a</s>"),
		"<b>&lt;</b>":                          plain("<", b(0, 1)),
		"&lt;b>a":                              plain("<b>a"),
		"<c.12aBcF>a</c>b":                     plain("ab", c(0x12abcf, 0, 1)),
		"<c.000001>a<c.000002>b</c>c</c>d</c>": plain("abcd</c>", c(1, 0, 1), c(2, 1, 2), c(1, 2, 3)),
		"<c>a</c><c.red>b":                     plain("<c>a</c><c.red>b"),
		"<c.00001g>":                           plain("<c.00001g>"),
		`<font color="#000001">a</font>`:       plain(`<font color="#000001">a</font>`),
		"\xc3&amp;\xa9":                        plain("\xc3&\xa9"),
		"\xc3<c.000001>\xa9":                   plain("\xc3<c.000001>\xa9"),
		"a|b\\N{y:b}{\\b1}":                    plain("a|b\\N{y:b}{\\b1}"),
	} {
		holdParse(t, api.DVoice, s, want)
	}
}

// TestParsePipe: P801 of DPipe, and the example 3.
func TestParsePipe(t *testing.T) {
	for s, want := range map[string]mark.Marked{
		"":                            plain(""),
		"|":                           plain("\n"),
		"a|b||c":                      plain("a\nb\n\nc"),
		"{y:b,i}{c:$0000FF}one|two":   plain("one\ntwo", b(0, 4), i(0, 4), c(0xff0000, 0, 4)),
		"{c:$0000fF}{y:b}one|two":     plain("one\ntwo", b(0, 4), c(0xff0000, 0, 4)),
		"{y:b}|{y:i}|{y:u}":           plain("\n\n", b(0, 1), i(1, 2)),
		"{y:b}":                       plain(""),
		"a|{y:s}b":                    plain("a\nb", k(2, 3)),
		"a{y:s}b":                     plain("a{y:s}b"),
		"{y:b}a{y:i}b|c":              plain("a{y:i}b\nc", b(0, 8)),
		"{y:b}{y:i}{y:u}{y:s}a":       plain("a", b(0, 1), i(0, 1), u(0, 1), k(0, 1)),
		"{y:s,u,i,b,b}a":              plain("a", b(0, 1), i(0, 1), u(0, 1), k(0, 1)),
		"{c:$000001}{c:$000002}a":     plain("a", c(0x020000, 0, 1)),
		"{c:$123456}a|b":              plain("a\nb", c(0x563412, 0, 2)),
		"{c:$FFFFFF}a":                plain("a", c(0xffffff, 0, 1)),
		"{c:$000000}a":                plain("a", c(0, 0, 1)),
		"{y:}a":                       plain("{y:}a"),
		"{y:b]a":                      plain("{y:b]a"),
		"{y:b;i}a":                    plain("{y:b;i}a"),
		"{y:b,}a":                     plain("{y:b,}a"),
		"{y:,b}a":                     plain("{y:,b}a"),
		"{y:bi}a":                     plain("{y:bi}a"),
		"{y:b, i}a":                   plain("{y:b, i}a"),
		"{y:b i}a":                    plain("{y:b i}a"),
		"{y:B}a":                      plain("{y:B}a"),
		"{Y:b}a":                      plain("{Y:b}a"),
		"{y:x}{y:b}a":                 plain("{y:x}{y:b}a"),
		"{y:b":                        plain("{y:b"),
		"{y:b,":                       plain("{y:b,"),
		"{y:":                         plain("{y:"),
		"{c:$00000}a":                 plain("{c:$00000}a"),
		"{c:$00000g}a":                plain("{c:$00000g}a"),
		"{c:000001}a":                 plain("{c:000001}a"),
		"{y:|b}":                      plain("{y:\nb}"),
		" {y:b}a":                     plain(" {y:b}a"),
		"a\n{y:b}b|c":                 plain("a\n{y:b}b\nc"),
		"{y:b}a\nb|c":                 plain("a\nb\nc", b(0, 4)),
		"\xc3|\xa9|{y:b}\xa9":         plain("\xc3\n\xa9\n\xa9", b(4, 5)),
		"<b>a</b>&lt;\\N{\\b1}":       plain("<b>a</b>&lt;\\N{\\b1}"),
		"{y:b}{y:b|{y:i}}":            plain("{y:b\n}", b(0, 5), i(5, 6)),
		"{y:b}{\xc3}|{c:$0000ff}\xff": plain("{\xc3}\n\xff", b(0, 4), c(0xff0000, 4, 5)),
	} {
		holdParse(t, api.DPipe, s, want)
	}
}

// TestParseBrace: P801 of DBrace, and the example 4.
func TestParseBrace(t *testing.T) {
	for s, want := range map[string]mark.Marked{
		"":                                     plain(""),
		`\N`:                                   plain("\n"),
		`a\Nb\nc\`:                             plain("a\nb\\nc\\"),
		`\\N`:                                  plain("\\\n"),
		`{\an8\b1}A{\b0}\NB{x}`:                high("A\nB{x}", b(0, 1)),
		`{\b1}`:                                plain(""),
		`{\an8}`:                               high(""),
		`{\an8}{\an8}a`:                        high(`{\an8}a`),
		`{\b1}{\an8}a`:                         plain(`{\an8}a`, b(0, 7)),
		`{\b1\an8\i1}a`:                        high("a", b(0, 1), i(0, 1)),
		`{\an8\an8}a`:                          high("a"),
		`a{\an8}`:                              plain(`a{\an8}`),
		`\N{\an8}`:                             plain("\n" + `{\an8}`),
		`{\an7}a{\an80}`:                       plain(`{\an7}a{\an80}`),
		`{\b1}a\Nb{\b0}c`:                      plain("a\nbc", b(0, 3)),
		`{\b1\i1\u1\s1}a{\b0\i0\u0\s0}b`:       plain("ab", b(0, 1), i(0, 1), u(0, 1), k(0, 1)),
		`{\b1\b0}a{\b0\b1}b`:                   plain("ab", b(1, 2)),
		`{\b1}{\b1}a{\b0}b`:                    plain("ab", b(0, 1)),
		`{\b0}a`:                               plain("a"),
		`{\c&H123456&}a{\c}b`:                  plain("ab", c(0x563412, 0, 1)),
		`{\c&HfFeEdD&}a`:                       plain("a", c(0xddeeff, 0, 1)),
		`{\c&H000000&\b1\c\i1}a`:               plain("a", b(0, 1), i(0, 1)),
		`{\c\c&HFFFFFF&}a`:                     plain("a", c(0xffffff, 0, 1)),
		`{\c&H000001&}a{\c&H000002&}b`:         plain("ab", c(0x010000, 0, 1), c(0x020000, 1, 2)),
		`{\c&H00001&}a`:                        plain(`{\c&H00001&}a`),
		`{\c&H000001}a`:                        plain(`{\c&H000001}a`),
		`{\c&H00000g&}a`:                       plain(`{\c&H00000g&}a`),
		`{\c&h000001&}a`:                       plain(`{\c&h000001&}a`),
		`{}a{\}b{ \b1}{\b1 }`:                  plain(`{}a{\}b{ \b1}{\b1 }`),
		`{\b2}a{\b}b{\b10}c{\B1}{\x1}`:         plain(`{\b2}a{\b}b{\b10}c{\B1}{\x1}`),
		`{\b1\Nx}`:                             plain("{\\b1\nx}"),
		`{\b1`:                                 plain(`{\b1`),
		`{\b`:                                  plain(`{\b`),
		`{\c`:                                  plain(`{\c`),
		`{`:                                    plain(`{`),
		`{{\b1}a}`:                             plain(`{a}`, b(1, 3)),
		"\xc3{\\b1}\xa9{\\b1}x":                plain("\xc3{\\b1}\xa9x", b(7, 8)),
		"\xc3\\N\xa9":                          plain("\xc3\n\xa9"),
		"\xe2{\\i1}\x82{\\b1}\xac":             plain("\xe2\x82{\\b1}\xac", i(1, 8)),
		"\xc3{\\i1}{\\b1}\xa9":                 plain("\xc3{\\b1}\xa9", i(1, 7)),
		"a|<b>c</b>&lt;{y:b}":                  plain("a|<b>c</b>&lt;{y:b}"),
		"{\\i1}a\nb":                           plain("a\nb", i(0, 3)),
		"{\\i1}\xf0\x9f{\\b1}\x98\x80{\\i0}\\": plain("\xf0\x9f{\\b1}\x98\x80\\", i(0, 9)),
	} {
		holdParse(t, api.DBrace, s, want)
	}
}

// TestParseRefuses: P801's errors in their order, and nothing beside them (P4).
func TestParseRefuses(t *testing.T) {
	tooMuch := strings.Repeat("<", api.MaxFile+1)
	for _, dialect := range noDialects() {
		for _, s := range []string{"", "a", tooMuch} {
			m, e := mark.Parse(dialect, s)
			hold(t, "no dialect", m, e, plain(""), api.ErrKind)
		}
	}
	for _, dialect := range dialects() {
		for s, want := range map[string]api.Errno{
			tooMuch:                               api.ErrLong,
			tooMuch[1:]:                           api.ErrLong,
			strings.Repeat("x", api.MaxText+1):    api.ErrLong,
			strings.Repeat("é", api.MaxText/2):    api.OK,
			strings.Repeat("\xc3", api.MaxText+1): api.ErrLong,
		} {
			m, e := mark.Parse(dialect, s)
			if want == api.OK {
				hold(t, "not too long", m, e, plain(s), api.OK)
			} else {
				hold(t, "too long", m, e, plain(""), want)
			}
		}
	}
}

// TestParseLimits: P801: what counts is how long S is, not s; how many spans the normal form has, not how many forms there are.
func TestParseLimits(t *testing.T) {
	full := strings.Repeat("x", api.MaxText)
	holdParse(t, api.DVoice, strings.Repeat("&amp;", api.MaxText), plain(strings.Repeat("&", api.MaxText)))
	holdParse(t, api.DVoice, "<v A>"+full, named("A", full))
	holdParse(t, api.DAngle, strings.Repeat("<b>", 5000)+"x", plain("x", b(0, 1)))
	holdParse(t, api.DBrace, strings.Repeat(`\N`, api.MaxText), plain(strings.Repeat("\n", api.MaxText)))
	holdParse(t, api.DBrace, `{`+strings.Repeat(`\i1`, 1000000)+`}`+full, plain(full, i(0, api.MaxText)))
	for dialect, part := range map[int]string{api.DAngle: "x<b>y</b>", api.DVoice: "x<b>y</b>", api.DBrace: `x{\b1}y{\b0}`} {
		holdParse(t, dialect, strings.Repeat(part, 256), plain(strings.Repeat("xy", 256), comb(256)...))
		m, e := mark.Parse(dialect, strings.Repeat(part, 257))
		hold(t, "too many", m, e, plain(""), api.ErrMany)
		m, e = mark.Parse(dialect, strings.Repeat(part, 257)+full)
		hold(t, "too long and too many", m, e, plain(""), api.ErrLong)
	}
	m, e := mark.Parse(api.DVoice, "<v A>"+strings.Repeat("x<b>y</b>", 257))
	hold(t, "too many, with a name", m, e, plain(""), api.ErrMany)
	m, e = mark.Parse(api.DBrace, `{\an8}`+strings.Repeat(`\N`, api.MaxText+1))
	hold(t, "too long, with a side", m, e, plain(""), api.ErrLong)
	m, e = mark.Parse(api.DPipe, strings.Repeat("{y:b}||", 257))
	hold(t, "too many lines", m, e, plain(""), api.ErrMany)
	m, e = mark.Parse(api.DPipe, strings.Repeat("|{y:b}", 256)+"x")
	hold(t, "many lines", m, e, plain(strings.Repeat("\n", 256)+"x", b(1, 257)), api.OK)
}

// TestParseWholeFile: P801: s has at most MaxFile bytes, however few signs it stands for.
func TestParseWholeFile(t *testing.T) {
	for dialect, form := range map[int]string{api.DAngle: "<b>", api.DVoice: "<b>", api.DPipe: "{y:b}", api.DBrace: `{\b1}`} {
		n := api.MaxFile % len(form)
		s := strings.Repeat(form, api.MaxFile/len(form)) + strings.Repeat("x", n)
		holdParse(t, dialect, s, plain(strings.Repeat("x", n), b(0, n)))
		m, e := mark.Parse(dialect, s+"x")
		hold(t, "a byte more", m, e, plain(""), api.ErrLong)
	}
}

// kept is what Keep tells.
type kept struct {
	text                api.Text
	signs, lines, spans int
	e                   api.Errno
}

func keep(dialect int, x api.Text, blank bool) kept {
	y, signs, lines, spans, e := mark.Keep(dialect, x, blank)
	return kept{y, signs, lines, spans, e}
}

func (k kept) is(o kept) bool {
	return sameText(k.text, o.text) && k.signs == o.signs && k.lines == o.lines && k.spans == o.spans && k.e == o.e
}

// holdKeep complains if what is kept is not what it should be, with no error.
func holdKeep(t *testing.T, dialect int, x api.Text, blank bool, y api.Text, signs, lines, spans int) {
	t.Helper()
	if got, want := keep(dialect, x, blank), (kept{y, signs, lines, spans, api.OK}); !got.is(want) {
		t.Errorf("Keep(%d, %+v, %v): %+v; want %+v", dialect, x, blank, got, want)
	}
}

// TestKeepSigns: P802, P803 and W10: the signs that each dialect can't say.
func TestKeepSigns(t *testing.T) {
	wide := map[rune]rune{'<': 0xFF1C, '>': 0xFF1E, '{': 0xFF5B, '}': 0xFF5D, '|': 0xFF5C, '\\': 0xFF3C}
	for dialect, unsaid := range map[int]string{api.DAngle: "<>", api.DVoice: "", api.DPipe: "{|}", api.DBrace: `{\}`} {
		for r := range rune(0x300) {
			s := string(r)
			want, n := s, 0
			if r < 0x20 && r != '\n' {
				want, n = " ", 1
			} else if strings.Contains(unsaid, s) {
				want, n = string(wide[r]), 1
			}
			holdKeep(t, dialect, text(s), true, text(want), n, 0, 0)
			holdKeep(t, dialect, text("é"+s+s+"\xff", b(0, 4)), true, text("é"+want+want+"\xff", b(0, 4)), 2*n, 0, 0)
		}
		for _, s := range []string{"\x80", "\xc3", "\xff", "\xe2\x82", "\ufffd", "\uff1c\uff3c", "\u2028\u0085", "😀", "\xc0\x8a"} {
			holdKeep(t, dialect, text(s), true, text(s), 0, 0, 0)
		}
	}
}

// TestKeepLooksOfSigns: P803: the sign that stands for another one looks like it.
func TestKeepLooksOfSigns(t *testing.T) {
	holdKeep(t, api.DAngle, text("1 < 2"), true, text("1 \uff1c 2"), 1, 0, 0)
	holdKeep(t, api.DAngle, text("a<b>c\t", b(1, 2), c(7, 3, 4), i(5, 6)), true, text("a\uff1cb\uff1ec ", b(1, 2), c(7, 3, 4), i(5, 6)), 3, 0, 0)
	holdKeep(t, api.DVoice, text("<&>{}|\\\r", u(0, 3)), true, text("<&>{}|\\ ", u(0, 3)), 1, 0, 0)
	holdKeep(t, api.DBrace, text("<|>{\\N}", k(3, 5)), true, text("<|>\uff5b\uff3cN\uff5d", k(3, 5)), 3, 0, 0)
	holdKeep(t, api.DPipe, text("<{}>\\|", i(0, 6)), true, text("<\uff5b\uff5d>\\\uff5c", i(0, 6)), 3, 0, 0)
}

// TestKeepLines: P803: blank lines, and the example 5.
func TestKeepLines(t *testing.T) {
	for _, dialect := range dialects() {
		for s, want := range map[string]string{
			"":                     "",
			"a":                    "a",
			"\n":                   "",
			"\n\n\n":               "",
			"\na\n\nb\n":           "a\nb",
			"a\nb\nc":              "a\nb\nc",
			"a\n":                  "a",
			"a\n\n\n":              "a",
			"\n\n\na":              "a",
			"a\n\n\n\nb":           "a\nb",
			"a\n \nb":              "a\n \nb",
			"\xc3\n\n\xa9\n":       "\xc3\n\xa9",
			"\n\xa9\n\n\n\xc3\n\n": "\xa9\n\xc3",
		} {
			holdKeep(t, dialect, text(s), true, text(s), 0, 0, 0)
			holdKeep(t, dialect, text(s), false, text(want), 0, len(s)-len(want), 0)
		}
		holdKeep(t, dialect, text("a\n\r\nb"), false, text("a\n \nb"), 1, 0, 0)
		holdKeep(t, dialect, text("\n\na\n\nb\n", i(0, 7)), false, text("a\nb", i(0, 3)), 0, 4, 0)
	}
	// The first line end of several stays, as it looks.
	holdKeep(t, api.DAngle, text("a\n\nb", b(1, 2), i(2, 3)), false, text("a\nb", b(1, 2)), 0, 1, 0)
	holdKeep(t, api.DBrace, text("\na\n", b(0, 1), i(2, 3)), false, text("a"), 0, 2, 0)
}

// TestKeepLooks: P802, P803: the looks that DVoice and DPipe can't say, and the example 5.
func TestKeepLooks(t *testing.T) {
	all := []api.Span{b(0, 1), i(0, 1), u(0, 1), k(0, 1), c(0xabcdef, 0, 1)}
	for _, dialect := range []int{api.DAngle, api.DPipe, api.DBrace} {
		holdKeep(t, dialect, text("a", all...), true, text("a", all...), 0, 0, 0)
	}
	holdKeep(t, api.DVoice, text("a", all...), true, text("a", b(0, 1), i(0, 1), u(0, 1), c(0xabcdef, 0, 1)), 0, 0, 1)
	holdKeep(t, api.DVoice, text("abc", k(0, 2), b(1, 2)), true, text("abc", b(1, 2)), 0, 0, 2)
	for _, x := range []struct {
		t     api.Text
		blank bool
		want  api.Text
		lines int
		spans int
	}{
		{text("ab", b(0, 1)), true, text("ab"), 0, 1},
		{text("ab", b(0, 2)), true, text("ab", b(0, 2)), 0, 0},
		{text("ab", b(0, 2), i(1, 2)), true, text("ab", b(0, 2)), 0, 1},
		{text("abc", b(0, 2), i(0, 1), u(1, 2), k(2, 3)), true, text("abc"), 0, 3},
		{text("ab", c(1, 0, 1), c(2, 1, 2)), true, text("ab"), 0, 2},
		{text("ab", c(1, 0, 1), c(1, 1, 2)), true, text("ab", c(1, 0, 2)), 0, 0},
		{text("ab", c(0, 0, 1)), true, text("ab"), 0, 1},
		{text("abc", c(1, 1, 3)), true, text("abc"), 0, 2},
		{text("a\nb", b(0, 1)), true, text("a\nb"), 0, 1},
		{text("a\nb", b(0, 2)), true, text("a\nb", b(0, 2)), 0, 0},
		{text("a\nb", b(1, 3)), true, text("a\nb", b(2, 3)), 0, 1},
		{text("a\nb", b(0, 3)), true, text("a\nb", b(0, 3)), 0, 0},
		{text("a\nb", c(1, 0, 2), c(2, 2, 3)), true, text("a\nb", c(1, 0, 2), c(2, 2, 3)), 0, 0},
		{text("\n\n", b(0, 1), i(1, 2)), true, text("\n\n", b(0, 1), i(1, 2)), 0, 0},
		{text("a\n", b(0, 1)), true, text("a\n"), 0, 1},
		{text("a\n", b(0, 1)), false, text("a", b(0, 1)), 1, 0},
		{text("a\n\nb", b(0, 2), i(2, 3)), false, text("a\nb", b(0, 2)), 1, 0},
		{text("a\n\nb", b(0, 1), b(2, 3)), false, text("a\nb"), 1, 1},
	} {
		holdKeep(t, api.DPipe, x.t, x.blank, x.want, 0, x.lines, x.spans)
	}
	holdKeep(t, api.DPipe, text("a|\n", b(1, 2)), true, text("a\uff5c\n"), 1, 0, 1)
}

// TestKeepRefuses: P803's errors in their order, and nothing beside them (P4).
func TestKeepRefuses(t *testing.T) {
	long := text(strings.Repeat("<\n", api.MaxText))
	for _, dialect := range noDialects() {
		for _, x := range []api.Text{text(""), text("a<"), long} {
			if got := keep(dialect, x, false); !got.is(kept{e: api.ErrKind}) {
				t.Errorf("Keep(%d): %+v; want kind", dialect, got)
			}
		}
	}
	for _, dialect := range dialects() {
		for e, x := range map[api.Errno]api.Text{
			api.ErrLong: long,
			api.ErrMany: text("a\x00", slices.Repeat([]api.Span{b(0, 1)}, 257)...),
			api.ErrSpan: text("a\x00b", b(0, 2), i(1, 3)),
		} {
			if got := keep(dialect, x, true); !got.is(kept{e: e}) {
				t.Errorf("Keep(%d): %+v; want %v", dialect, got, e)
			}
		}
	}
}

// TestKeepLimits: P803: what is kept may be too long, or have too many spans, or no more.
func TestKeepLimits(t *testing.T) {
	for dialect, sign := range map[int]string{api.DAngle: "<", api.DPipe: "|", api.DBrace: "{"} {
		fits := text(strings.Repeat(sign, 1365) + "x")
		if got := keep(dialect, fits, true); got.e != api.OK || got.signs != 1365 || len(got.text.S) != api.MaxText {
			t.Errorf("Keep(%d): %v, %d signs, %d bytes", dialect, got.e, got.signs, len(got.text.S))
		}
		fits.S += "\n"
		if got := keep(dialect, fits, true); !got.is(kept{e: api.ErrLong}) {
			t.Errorf("Keep(%d): %v, %d signs; want long", dialect, got.e, got.signs)
		}
		if got := keep(dialect, fits, false); got.e != api.OK || got.lines != 1 {
			t.Errorf("Keep(%d): %v, %d lines; want 1", dialect, got.e, got.lines)
		}
	}
	x := dense()
	for _, dialect := range []int{api.DAngle, api.DVoice, api.DBrace} {
		if got := keep(dialect, x, true); !got.is(kept{e: api.ErrMany}) {
			t.Errorf("Keep(%d): %v; want many", dialect, got.e)
		}
	}
	holdKeep(t, api.DPipe, x, true, text(x.S, i(0, 300)), 0, 0, 140)
	x.Spans[0].Kind = api.KStrike
	holdKeep(t, api.DVoice, x, true, text(x.S, comb(140)...), 0, 0, 300)
}

// TestName: P804.
func TestName(t *testing.T) {
	most := strings.Repeat("é", 32)
	for _, name := range []string{"", "Ann", "Ann & Bo <x>", " ", ",", "a,b", most, "\x7f\xc3\xff", "{\\an8}|", most[2:] + ",b"} {
		for _, dialect := range dialects() {
			says := name == "" || dialect == api.DVoice || dialect == api.DBrace && !strings.Contains(name, ",")
			want := ""
			if says {
				want = name
			}
			if got, gone, e := mark.Name(dialect, name); got != want || gone == says || e != api.OK {
				t.Errorf("Name(%d, %q): %q, %v, %v", dialect, name, got, gone, e)
			}
		}
	}
	for _, name := range []string{most + "a", "\x00", "a\n", "\tb", "a\x1f,", strings.Repeat("\n", 99)} {
		for _, dialect := range dialects() {
			if got, gone, e := mark.Name(dialect, name); got != "" || gone || e != api.ErrName {
				t.Errorf("Name(%d, %q): %q, %v, %v; want name", dialect, name, got, gone, e)
			}
		}
		for _, dialect := range noDialects() {
			for _, name := range []string{name, "", "Ann"} {
				if got, gone, e := mark.Name(dialect, name); got != "" || gone || e != api.ErrKind {
					t.Errorf("Name(%d, %q): %q, %v, %v; want kind", dialect, name, got, gone, e)
				}
			}
		}
	}
}

// holdPrint complains if it is not written as it should be.
func holdPrint(t *testing.T, dialect int, m mark.Marked, want string) {
	t.Helper()
	if s, e := mark.Print(dialect, m); s != want || e != api.OK {
		t.Errorf("Print(%d, %+v): %q, %v; want %q", dialect, m, s, e, want)
	}
}

// crossing is the example 6: bold 0 to 2, italic 1 to 3, without spans that cross.
func crossing() mark.Marked {
	return plain("abc", b(0, 2), i(1, 2), i(2, 3))
}

// TestPrintTags: P805 of DAngle and DVoice, and the example 6.
func TestPrintTags(t *testing.T) {
	all := plain("a", c(0x00abcd, 0, 1), k(0, 1), u(0, 1), i(0, 1), b(0, 1))
	holdPrint(t, api.DAngle, plain(""), "")
	holdPrint(t, api.DAngle, plain("a&b\n\n|{\\N}\xff"), "a&b\n\n|{\\N}\xff")
	holdPrint(t, api.DAngle, crossing(), "<b>a<i>b</i></b><i>c</i>")
	holdPrint(t, api.DAngle, all, `<b><i><u><s><font color="#00abcd">a</font></s></u></i></b>`)
	holdPrint(t, api.DAngle, plain("abc", i(0, 3), b(1, 2)), "<i>a</i><b><i>b</i></b><i>c</i>")
	holdPrint(t, api.DAngle, plain("abc", b(0, 3), i(1, 2)), "<b>a<i>b</i>c</b>")
	holdPrint(t, api.DAngle, plain("ab", c(0xffffff, 0, 1), c(0, 1, 2)), `<font color="#ffffff">a</font><font color="#000000">b</font>`)
	holdPrint(t, api.DAngle, plain("ab", c(1, 0, 2), u(1, 2)), `<font color="#000001">a</font><u><font color="#000001">b</font></u>`)
	holdPrint(t, api.DAngle, plain("ab", b(0, 1), b(1, 2)), "<b>ab</b>")
	holdPrint(t, api.DAngle, plain("a\nb", k(1, 3)), "a<s>\nb</s>")
	holdPrint(t, api.DAngle, plain("\xc3\xc3", i(1, 2)), "\xc3<i>\xc3</i>")
	holdPrint(t, api.DVoice, plain(""), "")
	holdPrint(t, api.DVoice, crossing(), "<b>a<i>b</i></b><i>c</i>")
	holdPrint(t, api.DVoice, plain("<&>\u00a0\u200e\u200f&amp;", b(1, 2)), "&lt;<b>&amp;</b>&gt;\u00a0\u200e\u200f&amp;amp;")
	holdPrint(t, api.DVoice, plain("ab", c(0x12ABCD, 0, 1), u(1, 2)), "<c.12abcd>a</c><u>b</u>")
	holdPrint(t, api.DVoice, named("Ann & <Bo>", "x\ny"), "<v Ann &amp; &lt;Bo&gt;>x\ny")
	holdPrint(t, api.DVoice, named("\xc3", "\xa9", i(0, 1)), "<v \xc3><i>\xa9</i>")
	holdPrint(t, api.DVoice, named("Ann", ""), "<v Ann>")
}

// TestPrintLines: P805 of DPipe.
func TestPrintLines(t *testing.T) {
	all := []api.Span{c(0x12abcd, 0, 4), k(0, 4), u(0, 4), i(0, 4), b(0, 4)}
	holdPrint(t, api.DPipe, plain(""), "")
	holdPrint(t, api.DPipe, plain("a\n\nb<>&\\\xff"), "a||b<>&\\\xff")
	holdPrint(t, api.DPipe, plain("\n"), "|")
	holdPrint(t, api.DPipe, plain("one\ntwo", all...), "{y:b,i,u,s}{c:$CDAB12}one|two")
	holdPrint(t, api.DPipe, plain("one\ntwo", c(0, 0, 4), k(4, 7)), "{c:$000000}one|{y:s}two")
	holdPrint(t, api.DPipe, plain("a\nb", u(0, 3)), "{y:u}a|{y:u}b")
	holdPrint(t, api.DPipe, plain("\n\n", i(0, 1), c(0xff0000, 1, 2)), "{y:i}|{c:$0000FF}|")
	holdPrint(t, api.DPipe, plain("a\n", b(0, 2)), "{y:b}a|")
}

// TestPrintOrders: P805 of DBrace, and the example 6.
func TestPrintOrders(t *testing.T) {
	all := []api.Span{c(0x12abcd, 0, 1), k(0, 1), u(0, 1), i(0, 1), b(0, 1)}
	holdPrint(t, api.DBrace, plain(""), "")
	holdPrint(t, api.DBrace, high(""), `{\an8}`)
	holdPrint(t, api.DBrace, high("a"), `{\an8}a`)
	holdPrint(t, api.DBrace, high("\n", i(0, 1)), `{\an8\i1}\N`)
	holdPrint(t, api.DBrace, high("ab", i(1, 2)), `{\an8}a{\i1}b`)
	holdPrint(t, api.DBrace, plain("a\n\nb<>&|\xff"), `a\N\Nb<>&|`+"\xff")
	holdPrint(t, api.DBrace, crossing(), `{\b1}a{\i1}b{\b0}c`)
	holdPrint(t, api.DBrace, plain("ab", all...), `{\b1\i1\u1\s1\c&HCDAB12&}a{\b0\i0\u0\s0\c}b`)
	holdPrint(t, api.DBrace, plain("ab", c(1, 0, 1), c(0, 1, 2)), `{\c&H010000&}a{\c&H000000&}b`)
	holdPrint(t, api.DBrace, plain("a\nb", u(0, 1), k(2, 3)), `{\u1}a{\u0}\N{\s1}b`)
}

// TestPrintRefuses: P805's errors in their order, and nothing beside them (P4).
func TestPrintRefuses(t *testing.T) {
	type marked = mark.Marked
	badName, long := "a\n", strings.Repeat("x", api.MaxText+1)
	many := slices.Repeat([]api.Span{b(0, 1)}, 257)
	for n, x := range []struct {
		m    marked
		want map[int]api.Errno
	}{
		{marked{}, nil},
		{marked{Text: text("\n\n")}, nil},
		{marked{Text: text(long), Name: badName, Side: 2}, each(api.ErrLong)},
		{marked{Text: text("x", many...), Name: badName, Side: 2}, each(api.ErrMany)},
		{marked{Text: text("x", b(0, 2)), Name: badName, Side: 2}, each(api.ErrSpan)},
		{marked{Text: text("\t"), Name: badName, Side: 2}, each(api.ErrName)},
		{marked{Name: strings.Repeat("x", 65)}, each(api.ErrName)},
		{marked{Text: text("\t"), Name: "Ann", Side: 2}, each(api.ErrLane)},
		{marked{Side: -1}, each(api.ErrLane)},
		{marked{Text: text("\t")}, each(api.ErrText)},
		{marked{Text: text("a\x1f")}, each(api.ErrText)},
		{marked{Text: text("<")}, map[int]api.Errno{api.DAngle: api.ErrText}},
		{marked{Text: text(">")}, map[int]api.Errno{api.DAngle: api.ErrText}},
		{marked{Text: text("|")}, map[int]api.Errno{api.DPipe: api.ErrText}},
		{marked{Text: text("\\")}, map[int]api.Errno{api.DBrace: api.ErrText}},
		{marked{Text: text("{")}, map[int]api.Errno{api.DPipe: api.ErrText, api.DBrace: api.ErrText}},
		{marked{Text: text("}")}, map[int]api.Errno{api.DPipe: api.ErrText, api.DBrace: api.ErrText}},
		{marked{Text: text("ab", k(0, 2))}, map[int]api.Errno{api.DVoice: api.ErrText}},
		{marked{Text: text("ab", b(0, 1))}, map[int]api.Errno{api.DPipe: api.ErrText}},
		{marked{Text: text("a\nb", c(1, 1, 3))}, map[int]api.Errno{api.DPipe: api.ErrText}},
		{marked{Text: dense()}, each(api.ErrText)},
		{marked{Text: text(strings.Repeat("<", 1366))}, map[int]api.Errno{api.DAngle: api.ErrText}},
		{marked{Name: "Ann"}, map[int]api.Errno{api.DAngle: api.ErrText, api.DPipe: api.ErrText, api.DBrace: api.ErrText}},
		{marked{Side: api.High}, map[int]api.Errno{api.DAngle: api.ErrText, api.DVoice: api.ErrText, api.DPipe: api.ErrText}},
		{marked{Name: "Ann", Side: api.High}, each(api.ErrText)},
	} {
		for _, dialect := range dialects() {
			if s, e := mark.Print(dialect, x.m); e != x.want[dialect] || e != api.OK && s != "" {
				t.Errorf("%d: Print(%d): %q, %v; want %v", n, dialect, s, e, x.want[dialect])
			}
		}
		for _, dialect := range noDialects() {
			if s, e := mark.Print(dialect, x.m); s != "" || e != api.ErrKind {
				t.Errorf("%d: Print(%d): %q, %v; want kind", n, dialect, s, e)
			}
		}
	}
}

// each is the same error of all dialects.
func each(e api.Errno) map[int]api.Errno {
	m := map[int]api.Errno{}
	for _, dialect := range dialects() {
		m[dialect] = e
	}
	return m
}

// TestTextsOfTests: the texts with which these tests are made are right ones.
func TestTextsOfTests(t *testing.T) {
	for _, x := range []api.Text{dense(), crossing().Text} {
		if e := style.Check(x); e != api.OK {
			t.Errorf("%v", e)
		}
	}
}
