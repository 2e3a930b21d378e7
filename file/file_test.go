package file_test

import (
	"slices"
	"strings"
	"testing"

	"surtitle/api"
	"surtitle/file"
)

// all are the lines of a file.
func all(s string) []file.Line { return slices.Collect(file.Lines([]byte(s))) }

// short are lines that are not too long, numbered from 1 on.
func short(l ...string) []file.Line {
	var lines []file.Line
	for n, s := range l {
		lines = append(lines, file.Line{Number: n + 1, S: s})
	}
	return lines
}

// TestLines: P11: lines with their numbers, an empty one behind them, no byte order mark at the beginning.
func TestLines(t *testing.T) {
	for s, want := range map[string][]file.Line{
		"":                       short(""),
		"a":                      short("a", ""),
		"a\n":                    short("a", ""),
		"a\r\nb\rc\n\n\rd":       short("a", "b", "c", "", "", "d", ""),
		"\n":                     short("", ""),
		"\ufeff":                 short("", ""),
		"\ufeffa\n\ufeffb":       short("a", "\ufeffb", ""),
		"\ufeff\ufeffa":          short("\ufeffa", ""),
		"\n\ufeffa":              short("", "\ufeffa", ""),
		"\xef\xbba\n \xff\x00\n": short("\xef\xbba", " \xff\x00", ""),
	} {
		if got := all(s); !slices.Equal(got, want) {
			t.Errorf("%q: %+v; want %+v", s, got, want)
		}
	}
}

// TestLong: the line in which the byte too many stands is Long, and the last one.
func TestLong(t *testing.T) {
	const most = api.MaxFile
	xs := strings.Repeat("x", most-10)
	for n, x := range []struct {
		s      string
		number int
		last   string
		long   bool
	}{
		{"\n" + xs + "\n12345678", 4, "", false},
		{"\n" + xs + "\n1234567\n", 4, "", false},
		{"\n" + xs + "\n123456\r\n", 4, "", false},
		{"\n" + xs + "\n123456\n\n", 5, "", false},
		{"\n" + xs + "\n123456789", 3, "123456789", true},
		{"\n" + xs + "\n12345678\n", 3, "12345678", true},
		{"\n" + xs + "\n12345678\r", 3, "12345678", true},
		{"\n" + xs + "\n12345678\r\n", 3, "12345678", true},
		{"\n" + xs + "\n12345678\nx", 3, "12345678", true},
		// the LF of a CR that may be is a byte of the line behind
		{"\n" + xs + "\n1234567\r\n", 4, "\n", true},
		{"\n" + xs + "\n1234567\r\n\n", 4, "\n", true},
		{"\n" + xs + "\n1234567\r\nx", 4, "\n", true},
		{"\n" + xs + "\n1234567\rx", 4, "x", true},
		{"\n" + xs + "\n1234567\r\r", 4, "", true},
		{"\n" + xs + "\n1234567\n\n", 4, "", true},
		{"\n" + xs + "\n1234567\nx", 4, "x", true},
		{"\n" + xs + "\n12345678" + xs, 3, "12345678x", true},
		{"\ufeff\n" + xs + "\n12345x", 3, "12345x", true},
	} {
		l := all(x.s)
		for i, line := range l {
			if line.Number != i+1 || line.Long != (x.long && i == len(l)-1) {
				t.Errorf("%d: %d, %v", n, line.Number, line.Long)
			}
		}
		if last := l[len(l)-1]; last != (file.Line{Number: x.number, S: x.last, Long: x.long}) {
			t.Errorf("%d: %.20q, %v; want %q", n, last.S, last, x.last)
		}
	}
}

// TestSequence: P2, P6: it goes over the bytes as they were, is left early, and ranged over again, within itself too.
func TestSequence(t *testing.T) {
	b := []byte("a\nb\n")
	lines := file.Lines(b)
	clear(b)
	seen := ""
	for x := range lines {
		seen += "(" + x.S
		for y := range lines {
			if y.S == "b" {
				break
			}
			seen += y.S
		}
		seen += ")"
	}
	if seen != "(aa)(ba)(a)" {
		t.Error(seen)
	}
	for x := range lines {
		if x.Number == 2 {
			break
		}
	}
}

// TestFault: a fault stands in its line.
func TestFault(t *testing.T) {
	if f := (file.Line{Number: 7, S: "x", Long: true}).Fault(api.ErrEnd, 3); f != (api.Fault{Err: api.ErrEnd, Line: 7, Col: 3}) {
		t.Error(f)
	}
}

// TestCheck: P11: ErrBack, ErrOrder, ErrMany, in this order.
func TestCheck(t *testing.T) {
	at := func(from, to int64) api.Cue {
		return api.Cue{Start: api.Ratio{N: from, D: 1}, End: api.Ratio{N: to, D: 1}}
	}
	one, full := []api.Cue{at(2, 4)}, slices.Repeat([]api.Cue{at(2, 4)}, api.MaxCues)
	for n, x := range []struct {
		ahead []api.Cue
		c     api.Cue
		want  api.Errno
	}{
		{nil, at(0, 1), api.OK},
		{nil, at(1, 1), api.ErrBack},
		{one, at(2, 4), api.OK},
		{one, at(2, 5), api.OK},
		{one, at(3, 4), api.OK},
		{one, at(2, 3), api.ErrOrder},
		{one, at(1, 9), api.ErrOrder},
		{one, at(1, 0), api.ErrBack},
		{append(one, at(3, 4)), at(2, 5), api.ErrOrder},
		{full[1:], at(2, 4), api.OK},
		{full, at(2, 4), api.ErrMany},
		{full, at(2, 3), api.ErrOrder},
		{full, at(3, 2), api.ErrBack},
	} {
		if e := file.Check(x.ahead, x.c); e != x.want {
			t.Errorf("%d: %v; want %v", n, e, x.want)
		}
	}
}

// TestBehind: P11: ErrOrder, ErrMany, of a cue behind so many of which the last one is known.
func TestBehind(t *testing.T) {
	at := func(from, to int64) api.Cue {
		return api.Cue{Start: api.Ratio{N: from, D: 1}, End: api.Ratio{N: to, D: 1}}
	}
	for n, x := range []struct {
		many    int
		last, c api.Cue
		want    api.Errno
	}{
		{0, api.Cue{}, at(0, 1), api.OK},
		{1, at(2, 4), at(2, 4), api.OK},
		{1, at(2, 4), at(2, 3), api.ErrOrder},
		{1, at(2, 4), at(1, 9), api.ErrOrder},
		{api.MaxCues - 1, at(2, 4), at(3, 4), api.OK},
		{api.MaxCues, at(2, 4), at(3, 4), api.ErrMany},
		{api.MaxCues, at(2, 4), at(1, 4), api.ErrOrder},
	} {
		if e := file.Behind(x.many, x.last, x.c); e != x.want {
			t.Errorf("%d: %v; want %v", n, e, x.want)
		}
	}
}
