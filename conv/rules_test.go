package conv_test

import (
	"bytes"
	"errors"
	"slices"
	"strings"
	"testing"
	"unsafe"

	"surtitle/api"
	"surtitle/conv"
	"surtitle/cue"
)

// written is what a format writes of a document; it complains of an error.
func written(t *testing.T, d api.Doc, format int, x api.Rate) ([]byte, []api.Loss) {
	t.Helper()
	f, e := conv.Of(format, x)
	if e != api.OK {
		t.Fatal(e)
	}
	b, lost, err := f.Write(d)
	if err != nil {
		t.Fatal(err)
	}
	return b, lost
}

// holdRead complains if what a format reads is not alike to a document.
func holdRead(t *testing.T, b []byte, d api.Doc, format int, x api.Rate) {
	t.Helper()
	f, _ := conv.Of(format, x)
	if got, fault := f.Parse(b); fault != (api.Fault{}) || !cue.Same(got, d) {
		t.Fatalf("Parse(%q) by %d: %+v, %v; want %+v", b, format, got, fault, d)
	}
}

// holdConvert complains if bytes are not converted to these, without losses.
func holdConvert(t *testing.T, b, want []byte, from, to int, x api.Rate) {
	t.Helper()
	got, lost, err := conv.Convert(b, from, to, x)
	if err != nil || len(lost) != 0 || !bytes.Equal(got, want) {
		t.Fatalf("Convert(%q, %d, %d, %v): %q, %v, %v; want %q", b, from, to, x, got, lost, err, want)
	}
}

// TestThereAndBack: P1806 (T4): what two formats both say goes from one to the other and back, byte by byte.
func TestThereAndBack(t *testing.T) {
	m, seen := newMaker(11), [5][5]int{}
	for range 10000 {
		d, x := m.doc(4), m.rate()
		var says [5]bool
		var files [5][]byte
		for n := api.FSrt; n <= api.FAss; n++ {
			ok, err := conv.Says(d, n, x)
			b, lost := written(t, d, n, x)
			if err != nil || ok != (len(lost) == 0) {
				t.Fatalf("Says(%+v, %d): %v, %v; lost: %v", d, n, ok, err, lost)
			}
			says[n], files[n] = ok, b
			// What it wrote, said whole or not, it reads and writes again.
			holdConvert(t, b, b, n, n, x)
		}
		for one := api.FSrt; one <= api.FAss; one++ {
			for two := api.FSrt; two <= api.FAss; two++ {
				if says[one] && says[two] {
					seen[one][two]++
					holdConvert(t, files[one], files[two], one, two, x)
					holdConvert(t, files[two], files[one], two, one, x)
					holdRead(t, files[one], d, one, x)
				}
			}
		}
	}
	for one := api.FSrt; one <= api.FAss; one++ {
		for two := api.FSrt; two <= api.FAss; two++ {
			if seen[one][two] < 500 {
				t.Errorf("%d and %d only %d times: the documents try too little", one, two, seen[one][two])
			}
		}
	}
}

// TestBothIsSaid: P1804 (T4): what Both tells is right, and both formats say it, where one's grid is a part of the other's.
func TestBothIsSaid(t *testing.T) {
	m := newMaker(12)
	for range 6000 {
		d, one, two := m.doc(4), m.format(), m.format()
		x := pick(m, api.Rate{Num: 25, Den: 1}, api.Rate{Num: 100, Den: 1}, api.Rate{Num: 1, Den: 1})
		got, err := conv.Both(d, one, two, x)
		if err != nil || cue.CheckDoc(got) != nil {
			t.Fatalf("Both(%+v, %d, %d): %+v, %v", d, one, two, got, err)
		}
		for _, n := range []int{one, two} {
			if ok, err := conv.Says(got, n, x); !ok || err != nil {
				t.Fatalf("Both(%+v, %d, %d): %+v: not said by %d, %v", d, one, two, got, n, err)
			}
			b, _ := written(t, got, n, x)
			holdRead(t, b, got, n, x)
		}
	}
}

// TestLosses: P1807 (T5): the losses of a conversion are those of what was read.
func TestLosses(t *testing.T) {
	m, kinds := newMaker(13), map[int]int{}
	for range 10000 {
		from, to, x := m.format(), m.format(), m.rate()
		b := m.file(from)
		_, lost, err := conv.Convert(b, from, to, x)
		if err != nil {
			continue
		}
		d, _ := parseWords(from, b)
		kept, want, err := cue.Keep(d, canWords(to, x))
		if err != nil || !slices.Equal(lost, want) {
			t.Fatalf("Convert(%q, %d, %d, %v): %v; want %v, %v", b, from, to, x, lost, want, err)
		}
		if len(lost) == 0 != cue.Same(kept, d) {
			t.Fatalf("Convert(%q, %d, %d, %v): %v, but %+v of %+v", b, from, to, x, lost, kept, d)
		}
		for _, l := range lost {
			kinds[l.Kind]++
		}
	}
	for kind := api.LTime; kind <= api.LStyle; kind++ {
		if kinds[kind] < 50 {
			t.Errorf("kind %d only %d times: the files try too little", kind, kinds[kind])
		}
	}
}

// TestNothingPanics: P1: any numbers and bytes at all; P4: beside an error stands nothing.
func TestNothingPanics(t *testing.T) {
	m := newMaker(14)
	number := func() int { return int(m.dice.Uint64()) >> m.dice.IntN(64) }
	heads := []string{"", "1\n", "WEBVTT\n\n", "{1}{1}25\n", "[Script Info]\n[Events]\nFormat: Start,End,Text\n"}
	for range 20000 {
		b := []byte(pick(m, heads...))
		for range m.dice.IntN(30) {
			b = append(b, byte(m.dice.Uint64()))
		}
		from, to, x := pick(m, m.format(), number()), pick(m, m.format(), number()), api.Rate{Num: number(), Den: number(), Drop: m.half()}
		made, lost, err := conv.Convert(b, from, to, x)
		if err != nil && (len(made) != 0 || len(lost) != 0) {
			t.Fatalf("%q, %v, %v", made, lost, err)
		}
		if n, e := conv.Guess(b); (e == api.OK) != (n != 0) {
			t.Fatal(n, e)
		}
		d := m.doc(2)
		for i := range d.Cues {
			c := &d.Cues[i]
			if m.half() {
				c.Start, c.End = r(int64(number()), int64(number())), r(int64(number()), int64(number()))
			}
			if m.half() {
				c.Lane, c.Side = number(), number()
			}
			if m.half() {
				c.Text.Spans = append(c.Text.Spans, api.Span{From: number(), To: number(), Kind: number(), Value: number()})
			}
		}
		kept, err := conv.Both(d, from, to, x)
		if err != nil && len(kept.Cues) != 0 {
			t.Fatalf("%+v, %v", kept, err)
		}
		if ok, err := conv.Says(d, to, x); err != nil && ok {
			t.Fatal(ok, err)
		}
		crew := pick(m, 1, 2, 8, number())
		if l, e := conv.Farm(crew, [][]byte{b, nil, b}, from, to, x); (e == api.OK) != (len(l) == 3) {
			t.Fatalf("%q, %v", l, e)
		}
	}
}

// TestGreat: P1: files of as many bytes as may be, and more, are told in time.
func TestGreat(t *testing.T) {
	for _, s := range []string{"1", "\n", "\r\n", "[", "{", "\xff", "WEBVTT", "1\n00:00:01,000 --> 00:00:02,000\na\n\n"} {
		b := []byte(strings.Repeat(s, 3*api.MaxFile/len(s)))
		conv.Guess(b)
		for from := api.FSrt; from <= api.FAss; from++ {
			// Line ends alone are what the format of the first file passes over: then it is too long.
			if _, _, err := conv.Convert(b, from, api.FAss, film); err == nil {
				t.Errorf("%.10q by %d: no error", s, from)
			}
		}
	}
	// As many cues as may be, in files of all formats.
	d := times(api.MaxCues, low(1, 2, "some text"))
	for from := api.FSrt; from <= api.FAss; from++ {
		b, _ := written(t, d, from, film)
		for to := api.FSrt; to <= api.FAss; to++ {
			want, _ := written(t, d, to, film)
			holdConvert(t, b, want, from, to, film)
		}
	}
}

// shareBytes tells whether two lists have memory in common, spare room and all.
func shareBytes(x, y []byte) bool {
	x, y = x[:cap(x)], y[:cap(y)]
	if len(x) == 0 || len(y) == 0 {
		return false
	}
	p, q := uintptr(unsafe.Pointer(&x[0])), uintptr(unsafe.Pointer(&y[0]))
	return p < q+uintptr(len(y)) && q < p+uintptr(len(x))
}

// TestHandedIn: P2: nothing that is handed in is changed, its spare room neither; what is answered is new memory.
func TestHandedIn(t *testing.T) {
	const file = "WEBVTT\n\n00:00:01.000 --> 00:00:02.000\n<v Ann><i>some text of a line</i>\n"
	all := []byte(file + "spare room")
	b := all[:len(file)]
	was := string(all)
	l := [][]byte{b, b, []byte("x"), b, nil, b}
	wasList := slices.Clone(l)
	if n, e := conv.Guess(b); n != api.FVtt || e != api.OK {
		t.Error(n, e)
	}
	made, lost, err := conv.Convert(b, api.FVtt, api.FVtt, none)
	farmed, e := conv.Farm(3, l[:4], api.FVtt, api.FVtt, none)
	if err != nil || len(lost) != 0 || e != api.OK || string(all) != was || !slices.EqualFunc(l, wasList, slices.Equal) {
		t.Fatal(err, lost, e, string(all))
	}
	answers := append(farmed, made)
	for i, x := range answers {
		if shareBytes(x, all) {
			t.Errorf("%d shares memory with what was handed in", i)
		}
		for _, y := range answers[:i] {
			if shareBytes(x, y) {
				t.Errorf("%d shares memory with another answer", i)
			}
		}
	}
	clear(all)
	if string(made) != file || string(farmed[0]) != file || string(farmed[3]) != file {
		t.Errorf("%q, %q", made, farmed)
	}
	room := []api.Cue{by(low(1, 2, "a<", bold(0, 1), bold(1, 2)), 1, api.High, "Ann"), low(1, 2, "b"), low(9, 8, "spare"), low(7, 6, "room")}
	wasRoom := cue.Twin(doc(room...))
	handed := doc(room[:2]...)
	both, err := conv.Both(handed, api.FVtt, api.FSrt, none)
	ok, err2 := conv.Says(handed, api.FAss, none)
	if err != nil || err2 != nil || !ok || !sameDoc(doc(room...), wasRoom) {
		t.Fatal(err, err2, ok, room)
	}
	for _, x := range both.Cues {
		clear(x.Text.Spans[:cap(x.Text.Spans)])
	}
	clear(both.Cues[:cap(both.Cues)])
	if !sameDoc(doc(room...), wasRoom) {
		t.Errorf("%+v was %+v", room, wasRoom)
	}
}

// TestAgain: P3, P5 and P8: the same calls answer the same, whatever is done to an answer, behind errors, and by formats of other rates.
func TestAgain(t *testing.T) {
	slow, _ := conv.Of(api.FFrm, film)
	fast, _ := conv.Of(api.FFrm, api.Rate{Num: 25, Den: 1})
	d := doc(low(1, 2, "a\x00"))
	for range 3 {
		for f, want := range map[conv.Format]string{slow: "{1}{1}24\n{24}{48}a \n", fast: "{1}{1}25\n{25}{50}a \n"} {
			b, lost, err := f.Write(d)
			if err != nil || string(b) != want || !slices.Equal(lost, []api.Loss{{Kind: api.LSign, N: 1}}) {
				t.Fatalf("%q, %v, %v", b, lost, err)
			}
			clear(b[:cap(b)])
			clear(lost[:cap(lost)])
			if back, fault := f.Parse([]byte("{1}{1}1\n{1}{2}a\n")); fault != (api.Fault{}) || !sameDoc(back, doc(low(1, 2, "a"))) {
				t.Fatal(back, fault)
			}
		}
		_, _, err := conv.Convert([]byte("x"), api.FSrt, api.FVtt, none)
		var f *conv.Failed
		if !errors.As(err, &f) || *f != (conv.Failed{Fault: api.Fault{Err: api.ErrCount, Line: 1, Col: 1}}) {
			t.Fatal(err)
		}
		*f = conv.Failed{}
		_, _, err = conv.Convert(nil, 9, 9, none)
		wraps(t, err, api.ErrKind)
		b, lost, err := conv.Convert([]byte("WEBVTT\n\n00:01.000 --> 00:02.000\n<v Ann>a"), api.FVtt, api.FSrt, none)
		if err != nil || string(b) != "1\n00:00:01,000 --> 00:00:02,000\na\n\n" || !slices.Equal(lost, []api.Loss{{Kind: api.LName, N: 1}}) {
			t.Fatalf("%q, %v, %v", b, lost, err)
		}
		clear(b[:cap(b)])
		clear(lost[:cap(lost)])
	}
}
