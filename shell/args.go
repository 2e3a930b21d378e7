package shell

import (
	"slices"
	"strconv"
	"strings"

	"surtitle/api"
	"surtitle/code"
	"surtitle/ratio"
)

// maxLetters is how many a document's name has at most.
const maxLetters = 8

// args is what the words behind a command's say; those of one kind in their order.
type args struct {
	asked   []string // names of documents that there must be
	made    []string // names of those that are set
	numbers []int
	ratios  []api.Ratio
	formats []int
	rate    api.Rate
	unit    int
	kind    int
	text    string
}

// argsOf reads words by a form, as those in player.table; false: they are not of that form.
func argsOf(form string, words []string) (args, bool) {
	kinds := kindsOf(form, len(words))
	if len(kinds) != len(words) {
		return args{}, false
	}
	a := args{rate: api.Rate{Num: 25, Den: 1}} // where a line tells none
	for i, kind := range kinds {
		if !a.take(kind, words[i]) {
			return args{}, false
		}
	}
	return a, true
}

// kindsOf tells the kinds of words that a form asks for. Behind `..` in it the two ahead come again, as long as there are words.
func kindsOf(form string, many int) []string {
	form, again := strings.CutSuffix(form, " ..")
	kinds := strings.Fields(form)
	for again && len(kinds) < many {
		kinds = append(kinds, kinds[len(kinds)-2:]...)
	}
	return kinds
}

// take reads one more word; false: it is none of that kind.
func (a *args) take(kind, word string) bool {
	ok := true
	switch kind {
	case "D":
		a.asked, ok = append(a.asked, word), isName(word)
	case "E":
		a.made, ok = append(a.made, word), isName(word)
	case "N":
		ok = a.takeNumber(word)
	case "A":
		ok = a.takeRatio(word)
	case "T":
		a.text = word
	case "rate":
		ok = a.takeRate(word)
	case "format":
		ok = a.takeFormat(word)
	case "unit":
		a.unit, ok = numberOf(unitWords(), word)
	case "kind":
		a.kind, ok = numberOf(kindWords(), word)
	default: // a format that the form itself names
		ok = word == kind && a.takeFormat(word)
	}
	return ok
}

func (a *args) takeNumber(word string) bool {
	n, ok := number(word)
	a.numbers = append(a.numbers, n)
	return ok
}

func (a *args) takeRatio(word string) bool {
	r, e := ratio.Parse(word)
	a.ratios = append(a.ratios, r)
	return e == api.OK
}

func (a *args) takeRate(word string) bool {
	var e api.Errno
	a.rate, e = code.Rate(word)
	return e == api.OK
}

func (a *args) takeFormat(word string) bool {
	n, ok := numberOf(formatWords(), word)
	a.formats = append(a.formats, n)
	return ok
}

// isName tells whether a word may be a document's name.
func isName(word string) bool {
	return word != "" && len(word) <= maxLetters && strings.Trim(word, "abcdefghijklmnopqrstuvwxyz") == ""
}

// number reads one that is written as answers write it, and in no other way.
func number(word string) (int, bool) {
	n, err := strconv.ParseInt(word, 10, 64)
	return int(n), err == nil && strconv.FormatInt(n, 10) == word
}

// numberOf tells which of api's numbers a word stands for, in a list of words by these numbers, of which 0 is none.
func numberOf(words []string, word string) (int, bool) {
	n := slices.Index(words, word)
	return n, n > 0
}

func formatWords() []string {
	return []string{api.FSrt: "srt", api.FVtt: "vtt", api.FFrm: "frm", api.FAss: "ass"}
}

func unitWords() []string {
	return []string{api.UBytes: "bytes", api.USigns: "signs", api.UPairs: "pairs"}
}

func kindWords() []string {
	return []string{api.KBold: "bold", api.KItalic: "italic", api.KUnder: "under", api.KStrike: "strike", api.KColour: "colour"}
}

func sideWords() []string {
	return []string{api.Low: "low", api.High: "high"}
}

func lossWords() []string {
	return []string{api.LTime: "time", api.LLane: "lane", api.LSide: "side", api.LName: "name", api.LSign: "sign", api.LLine: "line", api.LStyle: "style"}
}
