package shell_test

import (
	"slices"
	"strconv"
	"strings"
	"testing"

	"surtitle/api"
	"surtitle/shell"
)

// TestWords: P2201: lines and their words; nil: none; "!" alone: ErrWord.
func TestWords(t *testing.T) {
	wrong := []string{"!"}
	for _, x := range []struct {
		line string
		want []string
	}{
		{"", nil},
		{" \t \t", nil},
		{"a", []string{"a"}},
		{"  a\tb \t cd  ", []string{"a", "b", "cd"}},
		{`""`, []string{""}},
		{`"" ""`, []string{"", ""}},
		{`"a b" c`, []string{"a b", "c"}},
		{"\"a\tb\"\t\"c\"", []string{"a\tb", "c"}},
		{`"\\\"\n\t\x00\xff\x41"`, []string{"\\\"\n\t\x00\xffA"}},
		{`"\\" "\\\\"`, []string{`\`, `\\`}},
		{`"a\\"`, []string{`a\`}},
		{`"\x41\x42c"`, []string{"ABc"}},
		{`"\x414"`, []string{"A4"}},
		{`"\\x41"`, []string{`\x41`}},
		{"\"\xc3\\xa9\"", []string{"é"}},
		{"\"a\xc3\" \xa9\xff", []string{"a\xc3", "\xa9\xff"}},
		{"é \"中\U0001f600\"", []string{"é", "中\U0001f600"}},
		{"\"a\nb\x00\r\x7f\x1f\"", []string{"a\nb\x00\r\x7f\x1f"}},
		{"a\nb\r \x00\x1f", []string{"a\nb\r", "\x00\x1f"}},
		{"a\u00a0b\u2003c\vd\fe", []string{"a\u00a0b\u2003c\vd\fe"}},
		{`a\b \ \n \x41`, []string{`a\b`, `\`, `\n`, `\x41`}},
		{"#", nil},
		{"  # a \"", nil},
		{`#"`, nil},
		{`a # "`, []string{"a"}},
		{`"a" #"\q`, []string{"a"}},
		{"a#b c#", []string{"a#b", "c#"}},
		{`"#" "a # b"`, []string{"#", "a # b"}},
		{"\ufffd \"\ufffd\"", []string{"\ufffd", "\ufffd"}},
		{`'a b'`, []string{"'a", "b'"}},

		{`"`, wrong},
		{`"a`, wrong},
		{`a "b`, wrong},
		{`"a\"`, wrong},
		{`"a\`, wrong},
		{`"\x4`, wrong},
		{`"\x`, wrong},
		{`a"`, wrong},
		{`a"b"`, wrong},
		{`a"b" #`, wrong},
		{`"a"b`, wrong},
		{`"a""b"`, wrong},
		{`"a"#`, wrong},
		{"\"a\"\n", wrong},
		{"\"a\"\r", wrong},
		{"\"a\"\xff", wrong},
		{`"\x4G"`, wrong},
		{`"\x4A"`, wrong},
		{`"\xA4"`, wrong},
		{`"\x4"`, wrong},
		{`"\x"`, wrong},
		{`"\x 4"`, wrong},
		{`"\X41"`, wrong},
		{`"\N"`, wrong},
		{`"\r"`, wrong},
		{`"\0"`, wrong},
		{`"\ "`, wrong},
		{`"\#"`, wrong},
		{"\"\\\xff\"", wrong},
		{"\"\\x4\xff\"", wrong},
		{"\"\\é\"", wrong},
		{"\"\\\n\"", wrong},
		{`\"a\"`, wrong},
		{`"a" "\y" # x`, wrong},
		{`a "b # c`, wrong},
	} {
		l, e := shell.Words(x.line)
		if slices.Equal(x.want, wrong) {
			if e != api.ErrWord || len(l) > 0 {
				t.Errorf("%q: %q, %v; want word", x.line, l, e)
			}
			continue
		}
		if e != api.OK || !slices.Equal(l, x.want) {
			t.Errorf("%q: %q, %v; want %q", x.line, l, e, x.want)
		}
	}
}

// TestQuote: P2201: bytes, and how they are quoted.
func TestQuote(t *testing.T) {
	for b, want := range map[string]string{
		"":                         `""`,
		"a b#c'":                   `"a b#c'"`,
		"\\\"\n\t":                 `"\\\"\n\t"`,
		"\x00\x01\x0b\x0d\x1f\x20": `"\x00\x01\x0b\x0d\x1f "`,
		"\x7e\x7f":                 `"~\x7f"`,
		"\u0080\u009f\u00a0":       "\"\u0080\u009f\u00a0\"",
		"\xc3a\né":                 `"\xc3a\né"`,
		"\xe2\x82":                 `"\xe2\x82"`,
		"\xc0\x80\xed\xa0\x80":     `"\xc0\x80\xed\xa0\x80"`,
		"\xf4\x90\x80\x80\xff":     `"\xf4\x90\x80\x80\xff"`,
		"\ufffd\ufeff\u2028":       "\"\ufffd\ufeff\u2028\"",
		"\U0001f600\U0010ffff":     "\"\U0001f600\U0010ffff\"",
		"\\n\\x41":                 `"\\n\\x41"`,
	} {
		if got := shell.Quote([]byte(b)); got != want {
			t.Errorf("%q: %s; want %s", b, got, want)
		}
	}
	if got := shell.Quote(nil); got != `""` {
		t.Errorf("nil: %s", got)
	}
}

// TestLines: P2202: the lines of a script, an answer for each.
func TestLines(t *testing.T) {
	for script, want := range map[string]string{
		"":                        "",
		"\n":                      "\n",
		"\n\n":                    "\n\n",
		" ":                       "\n",
		"docs":                    "ok\n",
		"docs\n":                  "ok\n",
		"docs\n\n":                "ok\n\n",
		"docs\n\ndocs":            "ok\n\nok\n",
		"docs\n ":                 "ok\n\n",
		"#docs\n # x \"\n":        "\n\n",
		"docs # x":                "ok\n",
		"docs#":                   "word\n",
		"docs\r\ndocs\n":          "word\nok\n",
		"\r\n":                    "word\n",
		"\"docs\"\n\"\"\nDocs\n":  "ok\nword\nword\n",
		"docs \"\ndocs\n":         "word\nok\n",
		"docs \"a\nb\"\n":         "word\nword\n",
		"new \"a\"\n\"docs\"\n":   "ok\nok a=0\n",
		"new a\nnew \"\ndocs a\n": "ok\nword\nword\n",
		"\tdocs\t\n\x00\n":        "ok\nword\n",
		"docs\vdocs\n":            "word\n",
		"\ufeffdocs\n":            "word\n",
	} {
		if got := shell.Run(script); got != want {
			t.Errorf("%q: %q; want %q", script, got, want)
		}
	}
}

// TestLong: P2202: scripts of too many bytes, of too many lines.
func TestLong(t *testing.T) {
	all := strings.Repeat("#", api.MaxScript-5) + "\ndocs"
	if got := shell.Run(all); got != "\nok\n" {
		t.Errorf("%d bytes: %.50q", len(all), got)
	}
	if got := shell.Run(all + "\n"); got != "long\n" {
		t.Errorf("%d bytes: %.50q", len(all)+1, got)
	}
	if got := shell.Run(strings.Repeat("\n", api.MaxLines)); got != strings.Repeat("\n", api.MaxLines) {
		t.Errorf("512 lines: %.50q", got)
	}
	if got := shell.Run(strings.Repeat("\n", api.MaxLines) + "#"); got != "long\n" {
		t.Errorf("512 lines, and one without an end: %.50q", got)
	}
	if got := shell.Run(strings.Repeat("docs\n", api.MaxLines-1) + "docs"); got != strings.Repeat("ok\n", api.MaxLines) {
		t.Errorf("512 lines, the last one without an end: %.50q", got)
	}
	for _, s := range []string{strings.Repeat("\n", api.MaxLines+1), strings.Repeat("\n", api.MaxScript+1), strings.Repeat("x", api.MaxScript+1)} {
		if got := shell.Run(s); got != "long\n" {
			t.Errorf("%d bytes: %.50q", len(s), got)
		}
	}
}

// TestLongAnswer: P2202: answers as long as may be, and of one byte more.
func TestLongAnswer(t *testing.T) {
	// A byte 1 is one in the script, and four in an answer.
	lay := "lay a 0 0 1 \"" + strings.Repeat("\x01", 4096) + "\"\n"
	front := "new a\n" + strings.Repeat(lay, 7)
	want := "ok" + strings.Repeat(` 0-1/0/low/""/"`+strings.Repeat(`\x01`, 4096)+`"`, 7)
	lacks := api.MaxAnswer - len(want) - len(` 0-1/0/low/""/""`)
	for more := range 3 {
		s := strings.Repeat("\x01", (lacks-1)/4) + strings.Repeat("x", (lacks-1)%4+more)
		got := strings.Split(shell.Run(front+"lay a 7 0 1 \""+s+"\"\ncues a\ncue a 7\n"), "\n")
		last := `0-1/0/low/""/"` + strings.ReplaceAll(s, "\x01", `\x01`) + `"`
		answer := want + " " + last
		if len(answer) != api.MaxAnswer-1+more {
			t.Fatal(len(answer))
		}
		if more == 2 {
			answer = "long"
		}
		if got[9] != answer {
			t.Errorf("%d bytes and %d more: %d bytes, %.80q", api.MaxAnswer-1, more, len(got[9]), got[9])
		}
		n := strconv.Itoa(len(s))
		if got[10] != "ok "+last+" "+n+" "+n+" "+strconv.Itoa(strings.Count(s, "x")) {
			t.Errorf("behind it: %.80q", got[10])
		}
	}
}

// play complains if lines, which stand by turns with their answers, are answered otherwise.
func play(t *testing.T, l ...string) {
	t.Helper()
	var script []string
	for at := 0; at < len(l); at += 2 {
		script = append(script, l[at])
	}
	got := strings.Split(shell.Run(strings.Join(script, "\n")), "\n")
	if len(got) != len(script)+1 || got[len(script)] != "" {
		t.Fatalf("%d lines of answer: %.300q", len(got), got)
	}
	for n, line := range script {
		if got[n] != l[2*n+1] {
			t.Errorf("%d, %.200s: %.300q; want %.300q", n, line, got[n], l[2*n+1])
		}
	}
}

// TestExamples: the chapter's examples.
func TestExamples(t *testing.T) {
	play(t,
		"new a", "ok",
		`lay a 0 1 5/2 "Hi"`, "ok",
		"cues a", `ok 1-5/2/0/low/""/"Hi"`,
		"style a 0 signs 0 2 bold 0", "ok",
		"cue a 0", `ok 1-5/2/0/low/""/"Hi"/bold:0:2:0 2 2 2`,
		"write a srt", `ok "1\n00:00:01,000 --> 00:00:02,500\n<b>Hi</b>\n\n"`,
		"lay a 0 3 2 x", "back",
		"lay a 5 1 2 x", "arg",
		"take b 0", "none",
		"lay a 0 1", "word",
		"cue a 9", "arg",
		"move a b -2", "cue 0: back",
		`read v vtt "WEBVTT\n\n00:01.000 --> 00:02.000\nab"`, "ok 1",
		"read w vtt x", "head at 1 1",
		"docs", "ok a=1 v=1",
		"wrap v 0 2", `ok 0 "ab"`,
	)
	play(t,
		`read v vtt "WEBVTT\n\n00:01.000 --> 00:02.000\nab"`, "ok 1",
		"read w vtt x", "head at 1 1",
		"docs", "ok v=1",
	)
}

// TestFiles: P2202: read, write, convert, keep.
func TestFiles(t *testing.T) {
	play(t,
		`read s srt "1\n00:00:01,000 --> 00:00:02,000\n<i>a</i>\n\n"`, "ok 1",
		`read s srt "1\n00:00:01,000 --> 00:00:02,000\na\n\nx"`, "count at 5 1",
		`read s srt "1\x0d\n00:00:01,000 -> 00:00:02,000"`, "line at 2 1",
		`read s srt "\r"`, "word",
		"cues s", `ok 1-2/0/low/""/"a"/italic:0:1:0`,
		`read s srt ""`, "ok 0",
		"cues s", "ok",
		"write s srt", `ok ""`,
		"write s vtt", `ok "WEBVTT\n"`,
		"write s frm", `ok "{1}{1}25\n"`,
		"write s ass", `ok "[Script Info]\nScriptType: v4.00+\n\n[Events]\nFormat: Layer, Start, End, Style, Name, MarginL, MarginR, MarginV, Effect, Text\n"`,
		`read f frm "{1}{1}30000/1001d\n{30}{60}{y:b}a|b"`, "ok 1 30000/1001d",
		"cues f", `ok 1001/1000-1001/500/0/low/""/"a\nb"/bold:0:2:0`,
		`read f frm "{1}{1}24\n"`, "ok 0 24",
		`read f frm "{1}{1}50/2\n"`, "rate at 1 7",
		`read f frm "{1}{1}24\n{48}{24}x"`, "back at 2 1",
		`read f frm "{1}{1}24\n{24}{48}\xff"`, "ok 1 24",
		"cues f", `ok 1-2/0/low/""/"\xff"`,
		`read v vtt "WEBVTT\n\n00:01.000 --> 00:02.020 line:0\n<v Ann>a|b"`, "ok 1",
		"cues v", `ok 1-101/50/0/high/"Ann"/"a|b"`,
		"place v 0 3 1", "ok",
		"style v 0 signs 0 3 colour 255", "ok",
		"style v 0 signs 2 3 strike 0", "ok",
		"write v srt", "ok \"1\\n00:00:01,000 --> 00:00:02,020\\n<font color=\\\"#0000ff\\\">a|</font><s><font color=\\\"#0000ff\\\">b</font></s>\\n\\n\" 0=lane=1 0=side=1 0=name=1",
		"write v frm", `ok "{1}{1}25\n{25}{51}{c:$FF0000}a｜b\n" 0=time=1 0=lane=1 0=side=1 0=name=1 0=sign=1 0=style=1`,
		"write v frm 25", `ok "{1}{1}25\n{25}{51}{c:$FF0000}a｜b\n" 0=time=1 0=lane=1 0=side=1 0=name=1 0=sign=1 0=style=1`,
		"write v frm 50", `ok "{1}{1}50\n{50}{101}{c:$FF0000}a｜b\n" 0=lane=1 0=side=1 0=name=1 0=sign=1 0=style=1`,
		"write v frm 24000/1001", `ok "{1}{1}24000/1001\n{24}{48}{c:$FF0000}a｜b\n" 0=time=1 0=lane=1 0=side=1 0=name=1 0=sign=1 0=style=1`,
		"keep v k vtt", "ok 0=lane=1 0=style=1",
		"cues k", `ok 1-101/50/0/high/"Ann"/"a|b"/colour:0:3:255`,
		"keep v v frm", "ok 0=time=1 0=lane=1 0=side=1 0=name=1 0=sign=1 0=style=1",
		"cues v", `ok 1-51/25/0/low/""/"a｜b"/colour:0:3:255`,
		"undo v", "none",
		"keep v k ass", "ok",
		"convert k srt vtt 25", `ok "WEBVTT\n\n00:00:01.000 --> 00:00:02.040\n<c.0000ff>a｜b</c>\n"`,
		"style k 0 signs 0 2 strike 0", "ok",
		"convert k ass vtt 25", `ok "WEBVTT\n\n00:00:01.000 --> 00:00:02.040\n<c.0000ff>a｜b</c>\n" 0=style=2`,
		"convert k frm vtt 24", `ok "WEBVTT\n\n00:00:01.000 --> 00:00:02.042\n<c.0000ff>a｜b</c>\n" 0=time=1`,
		"convert k vtt frm 24", `ok "{1}{1}24\n{24}{49}{c:$FF0000}a｜b\n" 0=time=1`,
		"undo k", "ok",
		"convert k srt srt 1", "ok \"1\\n00:00:01,000 --> 00:00:02,040\\n<font color=\\\"#0000ff\\\">a｜b</font>\\n\\n\"",
		"docs", "ok f=1 k=1 s=0 v=1",
	)
}

// TestWritten: P2202: what fails of write, convert and keep: the words of the error.
func TestWritten(t *testing.T) {
	play(t,
		"new a", "ok",
		"lay a 0 0 1 x", "ok",
		`lay a 1 0 2 "`+strings.Repeat("<b", 1500)+`"`, "ok",
		"write a srt", "cue 1: long",
		"convert a srt vtt 25", "cue 1: long",
		"keep a b srt", "cue 1: long",
		"convert a ass srt 25", "cue 1: long",
		"keep a c ass", "ok",
		"docs", "ok a=2 c=2",
	)
}

// TestEdits: P2202: the edits, and their errors.
func TestEdits(t *testing.T) {
	play(t,
		"new a", "ok",
		"lay a 0 2 3 b", "ok",
		"lay a 0 1 5/2 a", "ok",
		"lay a 1 1 2 x", "order",
		"lay a -1 1 2 x", "arg",
		"lay a 0 -1 2 x", "time",
		"lay a 0 1/2000000 2 x", "wide",
		"lay a 2 2.5 6/2 \"c\\n\\xc3\"", "ok",
		"cues a", `ok 1-5/2/0/low/""/"a" 2-3/0/low/""/"b" 5/2-3/0/low/""/"c\n\xc3"`,
		"text a 2 signs 3 3 \"\\xa9\"", "seam",
		"text a 2 signs 3 3 é", "ok",
		"text a 2 bytes 4 5 x", "within",
		"text a 2 pairs 5 5 x", "arg",
		"text a 2 pairs 0 3 \"\U0001f600\"", "ok",
		"cue a 2", "ok 5/2-3/0/low/\"\"/\"\U0001f600é\" 2 3 3",
		"style a 2 pairs 1 2 bold 0", "within",
		"style a 2 pairs 0 2 bold 1", "span",
		"style a 2 pairs 2 2 bold 0", "span",
		"style a 2 pairs 0 2 colour 16777216", "span",
		"style a 2 pairs 0 2 colour 16777215", "ok",
		"style a 2 bytes 0 6 under 0", "ok",
		"style a 2 signs 1 2 strike 0", "ok",
		"style a 2 signs 0 1 italic 0", "ok",
		"cue a 2", "ok 5/2-3/0/low/\"\"/\"\U0001f600é\"/italic:0:1:0/under:0:1:0/colour:0:1:16777215/under:1:2:0/strike:1:2:0 2 3 3",
		"times a 1 2 6", "ok",
		"times a 1 2 2", "back",
		"times a 1 3 6", "order",
		"times a 3 3 6", "arg",
		"shift a 1 3 -2", "order",
		"shift a 0 3 -2", "back",
		"shift a 0 4 1", "arg",
		"shift a 2 1 1", "arg",
		"shift a 0 3 360000", "time",
		"shift a 0 3 -1/2", "ok",
		"cues a", "ok 1/2-2/0/low/\"\"/\"a\" 3/2-11/2/0/low/\"\"/\"b\" 2-5/2/0/low/\"\"/\"\U0001f600é\"/italic:0:1:0/under:0:1:0/colour:0:1:16777215/under:1:2:0/strike:1:2:0",
		"split a 2 bytes 4 9/4", "ok",
		"split a 2 bytes 1 9/4", "within",
		"split a 0 signs 1 2", "back",
		"split a 1 signs 1 1/2000000", "wide",
		"cues a", "ok 1/2-2/0/low/\"\"/\"a\" 3/2-11/2/0/low/\"\"/\"b\" 2-9/4/0/low/\"\"/\"\U0001f600\"/italic:0:1:0/under:0:1:0/colour:0:1:16777215 9/4-5/2/0/low/\"\"/\"é\"/under:0:1:0/strike:0:1:0",
		"join a 0", "ok",
		"join a 2", "arg",
		"place a 0 7 1", "ok",
		"place a 0 8 1", "lane",
		"place a 0 0 2", "lane",
		"name a 0 \"Ann \\\"B\\\"\"", "ok",
		"name a 0 \"\\x1f\"", "name",
		"name a 0 "+strings.Repeat("n", 65), "name",
		"cue a 0", `ok 1/2-11/2/7/high/"Ann \"B\""/"ab" 2 2 2`,
		"take a 1", "ok",
		"take a 2", "arg",
		"cues a", `ok 1/2-11/2/7/high/"Ann \"B\""/"ab" 9/4-5/2/0/low/""/"é"/under:0:1:0/strike:0:1:0`,
		"undo a", "ok",
		"undo a", "ok",
		"undo a", "ok",
		"cue a 0", `ok 1/2-11/2/0/low/""/"ab" 2 2 2`,
		"redo a", "ok",
		"cue a 0", `ok 1/2-11/2/7/high/""/"ab" 2 2 2`,
		"take a 2", "ok",
		"redo a", "none",
		"new a", "ok",
		"undo a", "none",
	)
}

// TestAsks: P2202: what is asked of documents.
func TestAsks(t *testing.T) {
	play(t,
		"new a", "ok",
		"cues a", "ok",
		"segments a", "ok",
		"active a 0", "ok",
		"pairs a a", "ok",
		"fast a 1", "ok",
		"rows a 1 2", "ok",
		"lay a 0 0 10 a", "ok",
		"lay a 1 2 4 \"bb\\ncc\"", "ok",
		"lay a 2 4 12 \"\\x00\"", "ok",
		"segments a", "ok 0-2:0 2-4:0,1 4-10:0,2 10-12:2",
		"active a 2", "ok 0 1",
		"active a 4", "ok 0 2",
		"active a 0", "ok 0",
		"active a 12", "ok",
		"active a -1/3", "ok",
		"active a 35/3", "ok 2",
		"cue a 1", `ok 2-4/0/low/""/"bb\ncc" 5 5 4`,
		"cue a 2", `ok 4-12/0/low/""/"\x00" 1 1 0`,
		"cue a -1", "arg",
		"cue a 3", "arg",
		"rows a 3 9", "ok 2+1 0+2 1+1",
		"rows a 2 9", "cue 1: full",
		"rows a 3 1", "cue 0: arg",
		"rows a 0 9", "cue 0: arg",
		"rows a 9223372036854775807 9", "cue 0: arg",
		"fast a 1/9", "ok 1=34",
		"fast a 1", "ok 1=2",
		"fast a 4/2", "ok",
		"fast a 0", "cue 0: arg",
		"fast a -1", "cue 0: arg",
		"fast a 2000003", "cue 0: wide",
		"same a a", "ok yes",
		"move a b 1/2", "ok",
		"same a b", "ok no",
		"cues b", `ok 1/2-21/2/0/low/""/"a" 5/2-9/2/0/low/""/"bb\ncc" 9/2-25/2/0/low/""/"\x00"`,
		"pairs a b", "ok 0=0 1=1 2=2",
		"take b 0", "ok",
		"pairs a b", "ok 0=0 2=1",
		"pairs b a", "ok 0=0 1=2",
		"fast a 1/4000000", "cue 0: time",
		"wrap a 1 9", `ok 98 "bb" "cc"`,
		"wrap a 1 1", "arg",
		"wrap a 1 201", "arg",
		"wrap a 3 9", "arg",
		"wrap a -1 9", "arg",
		"text a 0 signs 0 1 \"aaa bb\xd7\x90\xd7\x91 (\xd7\x90)\"", "ok",
		"wrap a 0 6", "ok 22 \"aaa\" \"bb\xd7\x91\xd7\x90\" \"(\xd7\x90)\"",
		"text a 0 signs 0 99 x", "arg",
		"text a 0 signs 0 12 \"\xd7\x90(a)\\xff\"", "ok",
		"wrap a 0 20", "ok 225 \"\ufffd(a)\xd7\x90\"",
	)
}

// TestDocs: P2202: documents made of others.
func TestDocs(t *testing.T) {
	play(t,
		"new a", "ok",
		"new bb", "ok",
		"lay a 0 0 2 a", "ok",
		"lay a 1 1 3 b", "ok",
		"lay a 2 1 4 c", "ok",
		"trim a t", "ok 2",
		"cues t", `ok 0-1/0/low/""/"a" 1-4/0/low/""/"b\nc"`,
		"stack a s", "ok 4",
		"cues s", `ok 0-1/0/low/""/"a" 1-2/0/low/""/"a\nb\nc" 2-3/0/low/""/"b\nc" 3-4/0/low/""/"c"`,
		"lanes a l", "ok 3",
		"cues l", `ok 0-2/0/low/""/"a" 1-3/1/low/""/"b" 1-4/2/low/""/"c"`,
		"lanes l l", "ok 3",
		"undo l", "none",
		"retime a r 0 0", "ok",
		"same a r", "ok yes",
		"retime a r 0 10 1 12", "ok",
		"cues r", `ok 10-14/0/low/""/"a" 12-16/0/low/""/"b" 12-18/0/low/""/"c"`,
		"retime r r 10 0 12 1", "ok",
		"same a r", "ok yes",
		"retime a r 0 -1", "cue 0: back",
		"retime a r 0 0 3 360000", "cue 2: time",
		"retime a r 0 0 0 1", "order",
		"retime a r 0 1 1 1", "back",
		"retime a r 0 0 1", "word",
		"retime a r"+strings.Repeat(" 0 0", 65), "many",
		"retime a r"+strings.Repeat(" 0 0", 64), "order",
		"same a r", "ok yes",
		"merge a s m", "ok 7",
		"cues m", `ok 0-2/0/low/""/"a" 0-2/0/high/""/"a" 1-3/0/low/""/"b" 1-3/0/high/""/"a\nb\nc" 1-4/0/low/""/"c" 1-4/0/high/""/"b\nc" 3-4/0/high/""/"c"`,
		"merge m a x", "cue 1: lane",
		"merge a m x", "cue 1: lane",
		"apart m e f", "ok 3 4",
		"same a e", "ok yes",
		"cues f", `ok 0-2/0/low/""/"a" 1-3/0/low/""/"a\nb\nc" 1-4/0/low/""/"b\nc" 3-4/0/low/""/"c"`,
		"apart m g g", "ok 3 4",
		"same g f", "ok yes",
		"apart m m h", "ok 3 4",
		"same m a", "ok yes",
		"fit bb y 1", "ok",
		"fit a y 1/5", "ok",
		"cues y", `ok 0-5/0/low/""/"a" 1-6/0/low/""/"b" 1-6/0/low/""/"c"`,
		"fit t y 1/5", "ok 0=4",
		"cues y", `ok 0-1/0/low/""/"a" 1-11/0/low/""/"b\nc"`,
		"fit a y 0", "cue 0: arg",
		"lay bb 0 0 1/2 abcd", "ok",
		"fit bb y 2", "ok",
		"cues y", `ok 0-2/0/low/""/"abcd"`,
		"move a y 360000", "cue 0: time",
		"move a y 1/4294967296", "word",
		"move a y 1/2147483648", "cue 0: wide",
		"move a a 1", "ok",
		"undo a", "none",
		"docs", "ok a=3 bb=1 e=3 f=4 g=4 h=4 l=3 m=3 r=3 s=4 t=2 y=1",
		"new abcdefgh", "ok",
		"new abcdefghi", "word",
		"new z", "ok",
		"docs", "ok a=3 abcdefgh=0 bb=1 e=3 f=4 g=4 h=4 l=3 m=3 r=3 s=4 t=2 y=1 z=0",
	)
}

// TestNormalForm: P2202: a cue's spans are those of its normal form.
func TestNormalForm(t *testing.T) {
	play(t,
		`read a srt "1\n00:00:00,000 --> 00:00:01,000\n<i>x<b>yy</b></i>"`, "ok 1",
		"cues a", `ok 0-1/0/low/""/"xyy"/italic:0:1:0/bold:1:3:0/italic:1:3:0`,
		"split a 0 signs 2 1/2", "ok",
		"cues a", `ok 0-1/2/0/low/""/"xy"/italic:0:1:0/bold:1:2:0/italic:1:2:0 1/2-1/0/low/""/"y"/bold:0:1:0/italic:0:1:0`,
		"join a 0", "ok", // its spans are those of both, side by side
		"cues a", `ok 0-1/0/low/""/"xyy"/italic:0:1:0/bold:1:3:0/italic:1:3:0`,
	)
}

// linesOfFile is a frm file of so many cues, quoted.
func linesOfFile(many int) string {
	return `"{1}{1}25\n` + strings.Repeat(`{0}{25}x\n`, many) + `"`
}

// TestMany: P2202: no document has more than 500 cues, and that is told behind all else.
func TestMany(t *testing.T) {
	play(t,
		"read a frm "+linesOfFile(501), "many",
		"docs", "ok",
		"read a frm "+linesOfFile(500), "ok 500 25",
		"read a frm "+linesOfFile(501), "many",
		"read a frm "+strings.Replace(linesOfFile(501), "{25}x\\n\"", "{0}x\"", 1), "back at 502 1",
		"style a 0 signs 0 1 bold 0", "ok",
		"undo a", "ok",
		"lay a 500 0 1 x", "many",
		"lay a 501 0 1 x", "arg",
		"lay a 500 0 1/2 x", "order",
		"split a 499 signs 0 1/2", "order",
		"split a 0 signs 0 1/2", "many",
		"split a 0 signs 2 1/2", "arg",
		"redo a", "ok", // what was refused changed nothing
		"docs", "ok a=500",
		"new b", "ok",
		"merge a b c", "ok 500",
		"apart c x y", "ok 500 0",
		"lay b 0 0 1 y", "ok",
		"merge a b c", "many",
		"merge a b a", "many",
		"merge b a a", "many",
		"place b 0 0 1", "ok",
		"merge a b c", "cue 0: lane",
		"same a c", "ok yes",
		"take a 0", "ok",
		"undo a", "ok",
		"docs", "ok a=500 b=1 c=500 x=500 y=0",
		"take a 0", "ok",
		"lay a 499 0 1 x", "ok",
		"undo a", "ok",
		"split a 0 signs 0 1/2", "ok",
		"docs", "ok a=500 b=1 c=500 x=500 y=0",
	)
}

// TestManyStacked: P2202: stretches may be more than cues.
func TestManyStacked(t *testing.T) {
	var file strings.Builder
	for n := range 251 {
		file.WriteString(`{` + strconv.Itoa(n) + `}{` + strconv.Itoa(300+n) + `}\n`)
	}
	play(t,
		`read a frm "{1}{1}25\n`+file.String()+`"`, "ok 251 25",
		"stack a b", "many", // 501 stretches
		"docs", "ok a=251",
		"take a 0", "ok",
		"stack a b", "ok 499",
		"trim a a", "ok 250",
		"stack b c", "ok 499",
		"docs", "ok a=250 b=499 c=499",
	)
}
