package shell_test

import (
	"strings"
	"testing"

	"surtitle/shell"
)

// forms are lines that are right, a word each behind what it is: D a document, E one that is set, N a number, A a ratio, T bytes.
var forms = []string{
	"=new E:c",
	"=read E:c format:srt T:x",
	"=write D:a format:srt",
	"=write D:a format:frm",
	"=write D:a =frm rate:24",
	"=convert D:a format:srt format:frm rate:30000/1001d",
	"=keep D:a E:c format:ass",
	"=lay D:a N:0 A:0 A:1/2 T:x",
	"=take D:a N:0",
	"=times D:a N:0 A:1 A:2.5",
	"=text D:a N:0 unit:bytes N:0 N:1 T:x",
	"=style D:a N:0 unit:signs N:0 N:1 kind:colour N:5",
	"=style D:a N:0 unit:signs N:0 N:1 kind:italic N:0",
	"=shift D:a N:0 N:1 A:1",
	"=split D:a N:0 unit:pairs N:1 A:3/2",
	"=join D:a N:0",
	"=place D:a N:0 N:1 N:1",
	"=name D:a N:0 T:Ann",
	"=undo D:a",
	"=redo D:a",
	"=cues D:a",
	"=cue D:a N:0",
	"=active D:a A:0",
	"=segments D:a",
	"=retime D:a E:c A:0 A:1",
	"=retime D:a E:c A:0 A:1 A:2 A:3 A:4 A:5",
	"=move D:a E:c A:-1",
	"=trim D:a E:c",
	"=stack D:a E:c",
	"=lanes D:a E:c",
	"=merge D:a D:b E:c",
	"=apart D:a E:c E:d",
	"=pairs D:a D:b",
	"=wrap D:a N:0 N:9",
	"=rows D:a N:9 N:9",
	"=fast D:a A:1",
	"=fit D:a E:c A:1",
	"=same D:a D:b",
	"=docs",
}

// noWords are words that are none of a kind.
var noWords = map[string][]string{
	"D":      {"A", "abcdefghi", `""`, "a1", "é", "a_", `"a b"`, "-", `"a\n"`, `"\xe1"`, "0"},
	"N":      {"x", `""`, "01", "-01", "00", "-0", "+1", "1.0", "1/1", "9223372036854775808", "-9223372036854775809", "99999999999999999999", "--1", "-", "1-", "1_0", "0x1", "1e3", "٣", `" 1"`, `"1 "`},
	"A":      {"x", `""`, "01", "-0", "-0/1", "-0.0", "+1", ".5", "1.", "1/2/3", "1/03", "1/", "/1", "1/-1", "1/0", "99999999999999999999", "1/4294967296", "4611686018427387905", "1.0000000001", "1e3", `"1 "`, "1,5"},
	"rate":   {"x", `""`, "0", "025", "25/1", "50/2", "241", "1/2", "25d", "29.97", "30000/1001dd", "-25", "24000/1001d"},
	"format": {"SRT", `""`, "txt", "sr", "frmm", "1", `"srt "`},
	"unit":   {"byte", `""`, "Signs", "2", "runes"},
	"kind":   {"Bold", `""`, "color", "1", "b"},
	"=":      {"x", `""`},
}

// parts tells the words of a form's line, and of which kind each is.
func parts(form string) (words, kinds []string) {
	for part := range strings.FieldsSeq(form) {
		kind, word, ok := strings.Cut(part, ":")
		if !ok {
			kind, word = "=", part[1:]
		}
		words, kinds = append(words, word), append(kinds, kind)
	}
	return words, kinds
}

// front makes two documents, one of which has something that can be undone, and tells the script that does so.
const front = "new a\nnew b\nlay a 0 0 2 x\nlay a 1 1 2 yy\nlay b 0 0 1/2 z\nundo b\n"

// answerOf tells the answer of a line behind front, and what the documents are behind that.
func answerOf(t *testing.T, line string) (answer, docs string) {
	t.Helper()
	l := strings.Split(shell.Run(front+line+"\ndocs\ncues a\ncues b\nundo a\nredo b\ncues a\ncues b\n"), "\n")
	if len(l) != 15 {
		t.Fatalf("%s: %q", line, l)
	}
	return l[6], strings.Join(l[7:], "\n")
}

// refused complains if a line is not answered so, or changes something.
func refused(t *testing.T, line, want string) {
	t.Helper()
	_, before := answerOf(t, "")
	if got, docs := answerOf(t, line); got != want || docs != before {
		t.Errorf("%s: %s, and behind it %s; want %s", line, got, docs, want)
	}
}

// replaced tells a line with another word.
func replaced(words []string, at int, word string) string {
	l := append([]string(nil), words...)
	l[at] = word
	return strings.Join(l, " ")
}

// TestForms: P2202: words that are of a command's form, and such as are not, in their number and each.
func TestForms(t *testing.T) {
	for _, form := range forms {
		words, kinds := parts(form)
		line := strings.Join(words, " ")
		if got, _ := answerOf(t, line); got == "word" || got == "" {
			t.Errorf("%s: %q", line, got)
		}
		quoted := `"` + strings.Join(words, `" "`) + `"`
		if got, _ := answerOf(t, quoted); got == "word" || got == "" {
			t.Errorf("%s: %q", quoted, got)
		}
		for n, kind := range kinds {
			if kind == "E" {
				kind = "D"
			}
			for _, word := range noWords[kind] {
				refused(t, replaced(words, n, word), "word")
			}
		}
		if words[0] != "retime" {
			refused(t, line+" x", "word")
		}
		refused(t, line+" 0", "word")
		refused(t, line+` ""`, "word")
		for n := 1; n < len(words); n++ {
			switch short := strings.Join(words[:n], " "); short {
			case "write a frm", "retime a c 0 1", "retime a c 0 1 2 3": // right as they are
			default:
				refused(t, short, "word")
			}
		}
	}
	refused(t, "write a srt 25", "word")
	refused(t, "retime a c", "word")
	refused(t, "retime a c 0 1 2", "word")
	refused(t, "retime a c 0 1 2 x", "word")
	for _, line := range []string{"x", "New a", "news a", `"new "`, "cue", "cuess a", `""`, "a", "0", "undone a", "\x00"} {
		refused(t, line, "word")
	}
}

// TestEdges: P2202: words that only just are of a kind.
func TestEdges(t *testing.T) {
	for line, want := range map[string]string{
		"take a 9223372036854775807":                                "arg",
		"take a -9223372036854775808":                               "arg",
		"text a 0 signs -9223372036854775808 9223372036854775807 x": "arg",
		"style a 0 signs 0 1 colour 9223372036854775807":            "span",
		"style a 0 signs 0 1 bold -9223372036854775808":             "span",
		"place a 0 4294967296 0":                                    "lane",
		"place a 0 0 4294967297":                                    "lane",
		"wrap a 0 4294967298":                                       "arg",
		"cue a 4294967296":                                          "arg",
		"shift a -9223372036854775808 9223372036854775807 1":        "arg",
		"active a 4611686018427387904":                              "ok",
		"active a 1/2147483648":                                     "ok 0",
		"active a 1.000000000":                                      "ok 0 1",
		"move a c -4611686018427387904/1":                           "cue 0: back",
		"write a frm 240":                                           `ok "{1}{1}240\n{0}{480}x\n{240}{480}yy\n"`,
		"write a frm 60000/1001d":                                   `ok "{1}{1}60000/1001d\n{0}{120}x\n{60}{120}yy\n" 0=time=1 1=time=1`,
		"new abcdefgh":                                              "ok",
		"new z":                                                     "ok",
		"name a 0 ab":                                               "ok",
		`name a 0 ""`:                                               "ok",
		`text a 0 bytes 0 1 ""`:                                     "ok",
		`read c srt ""`:                                             "ok 0",
		`read c frm ""`:                                             "head at 1 1",
		`"lay" "a" "1" "1" "3/2" ""`:                                "ok",
		"retime a c 0 0 1 2 1/2 3 # 4":                              "order",
		"lay a 0 0 1 #":                                             "word",
		"lay a 0 0 1 a#":                                            "ok",
		"lay a 0 0 1 \xff":                                          "ok",
		"convert a ass ass 240":                                     `ok "[Script Info]\nScriptType: v4.00+\n\n[Events]\nFormat: Layer, Start, End, Style, Name, MarginL, MarginR, MarginV, Effect, Text\nDialogue: 0,0:00:00.00,0:00:02.00,Default,,0,0,0,,x\nDialogue: 0,0:00:01.00,0:00:02.00,Default,,0,0,0,,yy\n"`,
		"lay a 2 4611686018427387904 4611686018427387904 x":         "time",
		"lay a 2 1/2147483648 4611686018427387904 x":                "wide",
		`lay a 2 359999 360000 "` + strings.Repeat("x", 4096) + `"`: "ok",
		`lay a 2 359999 360000 "` + strings.Repeat("x", 4097) + `"`: "long",
		`read c vtt "\xef\xbb\xbfWEBVTT\n\n00:01.000 --> 00:02.000\n` + "a\x00\xff" + `"`:         "ok 1",
		`read c ass "[Script Info]\n[Events]\nFormat: Start, End, Text\nDialogue: 1,2,x"`:         "time at 4 11",
		`read c srt "1\n00:00:01,000 --> 00:00:02,000\n` + strings.Repeat("x", 4097) + `"`:        "long at 3 1",
		`read c srt "1\n00:00:01,000 --> 00:00:02,000\n` + strings.Repeat("<b>x</b>y", 257) + `"`: "many at 3 1",
	} {
		if got, _ := answerOf(t, line); got != want {
			t.Errorf("%.100s: %q; want %q", line, got, want)
		}
	}
}

// TestNone: P2202: a document that there is not, behind words that are wrong, ahead of all else; one that is made need not be there.
func TestNone(t *testing.T) {
	for _, form := range forms {
		words, kinds := parts(form)
		for n, kind := range kinds {
			switch kind {
			case "D":
				line := replaced(words, n, "zz")
				refused(t, line, "none")
				refused(t, line+" # x", "none")
				refused(t, line+` "`, "word")
				refused(t, line+" x x", "word")
				for k, other := range kinds {
					if k == n || other == "T" {
						continue
					}
					if other == "E" {
						other = "D"
					}
					l := append([]string(nil), words...)
					l[n], l[k] = "zz", noWords[other][0]
					refused(t, strings.Join(l, " "), "word")
				}
			case "E":
				if got, _ := answerOf(t, replaced(words, n, "zz")); got == "none" || got == "word" {
					t.Errorf("%s: %s", replaced(words, n, "zz"), got)
				}
			}
		}
	}
	for _, line := range []string{"take zz 9", "lay zz 0 2 1 x", "move zz c -9", "retime zz c 0 0 0 0", "wrap zz 0 0", "rows zz 0 0", "fast zz 0", "merge zz a c", "merge a zz c", "same c a", "pairs a c"} {
		refused(t, line, "none")
	}
}

// TestRefused: P2202, P5: a refused line changes nothing: no document, and nothing of what can be undone or done again.
func TestRefused(t *testing.T) {
	for line, want := range map[string]string{
		"read a srt x":                           "count at 1 1",
		"read c srt x":                           "count at 1 1",
		"lay b 0 1 1 x":                          "back",
		"take b 0":                               "arg",
		"times a 1 3 2":                          "back",
		"text a 0 signs 0 2 x":                   "arg",
		"style a 0 signs 0 1 bold 1":             "span",
		"shift a 0 2 -1":                         "back",
		"split a 0 signs 0 2":                    "back",
		"join a 1":                               "arg",
		"place a 0 8 0":                          "lane",
		`name a 0 "\n"`:                          "name",
		"undo b":                                 "none",
		"redo a":                                 "none",
		"cue a 2":                                "arg",
		"retime a a 0 -1":                        "cue 0: back",
		"retime a b 0 0 0 0":                     "order",
		"move a b -1":                            "cue 0: back",
		"move a a 360000":                        "cue 0: time",
		"wrap a 0 1":                             "arg",
		"rows a 1 9":                             "cue 1: full",
		"fast a 0":                               "cue 0: arg",
		"fit a b 0":                              "cue 0: arg",
		"fit a a 1/4000000":                      "cue 0: time",
		"read b frm \"{1}{1}25\\n{0}{25}x\\ny\"": "line at 3 1",
		"read a vtt \"WEBVTT\\nx\"":              "head at 2 1",
		"read a ass \"[Script Info]\"":           "end at 2 1",
		"read a srt \"1\\n0 --> 1\"":             "time at 2 1",
		"read a srt \"1\\n00:00:02,000 --> 00:00:03,000\\nx\\n\\n1\\n00:00:01,000 --> 00:00:03,000\\nx\"": "order at 6 1",
	} {
		refused(t, line, want)
	}
}
