package shell

import (
	"strconv"
	"strings"

	"surtitle/api"
	"surtitle/lane"
	"surtitle/ratio"
	"surtitle/speed"
	"surtitle/style"
)

// each tells what is said of each thing of a list.
func each[T any](l []T, say func(T) string) []string {
	var told []string
	for _, x := range l {
		told = append(told, say(x))
	}
	return told
}

// howMany tells how many cues a document has.
func howMany(d api.Doc) string { return strconv.Itoa(len(d.Cues)) }

// stretch tells from when to when.
func stretch(from, to api.Ratio) string { return ratio.Text(from) + "-" + ratio.Text(to) }

func sayCue(c api.Cue) string {
	parts := []string{
		stretch(c.Start, c.End),
		strconv.Itoa(c.Lane),
		sideWords()[c.Side],
		Quote([]byte(c.Name)),
		Quote([]byte(c.Text.S)),
	}
	t, _ := style.Norm(c.Text) // one that would have too many spans has none
	return strings.Join(append(parts, each(t.Spans, saySpan)...), "/")
}

func saySpan(x api.Span) string {
	return kindWords()[x.Kind] + ":" + numbers(":", x.From, x.To, x.Value)
}

func sayLoss(x api.Loss) string {
	return strconv.Itoa(x.Cue) + "=" + lossWords()[x.Kind] + "=" + strconv.Itoa(x.N)
}

func saySegment(x api.Seg) string {
	return stretch(x.From, x.To) + ":" + numbers(",", x.Cues...)
}

func sayPair(x [2]int) string { return numbers("=", x[:]...) }

func sayPlace(x lane.Place) string { return numbers("+", x.Row, x.Rows) }

func sayFast(x speed.Fast) string {
	return strconv.Itoa(x.Cue) + "=" + ratio.Text(x.Lacks)
}

// numbers tells some, with that sign between each two.
func numbers(sign string, l ...int) string {
	return strings.Join(each(l, strconv.Itoa), sign)
}
