package code

import (
	"strconv"
	"strings"
)

// dial is the form that time codes and clocks share: hours:minutes:seconds, a mark, the number in the second.
type dial struct {
	hours  int   // the digits that hours have at least
	mark   byte  // ahead of the number in the second
	per    int64 // numbers of a second
	digits int   // of the number in the second
	short  bool  // read without hours too
}

// mostHours is how many digits hours have at most.
const mostHours = 3

// write tells a number as text; numbers are counted through, from 0 on.
func (d dial) write(number int64) string {
	seconds := number / d.per
	var b strings.Builder
	b.WriteString(padded(seconds/3600, d.hours))
	b.WriteByte(':')
	b.WriteString(padded(seconds/60%60, 2))
	b.WriteByte(':')
	b.WriteString(padded(seconds%60, 2))
	b.WriteByte(d.mark)
	b.WriteString(padded(number%d.per, d.digits))
	return b.String()
}

// padded tells a number with noughts ahead, so many digits at least.
func padded(n int64, digits int) string {
	s := strconv.FormatInt(n, 10)
	return strings.Repeat("0", max(digits-len(s), 0)) + s
}

// read tells the number that a text says; false: the text has not that form.
func (d dial) read(s string) (int64, bool) {
	// All but the hours has a fixed width, so it is found from the end.
	at := len(s) - len("MM:SS.") - d.digits
	if at < 0 || s[at+2] != ':' || s[at+5] != d.mark {
		return 0, false
	}
	hours, ok := d.readHours(s[:at])
	minutes, ok1 := below(60, s[at:at+2])
	seconds, ok2 := below(60, s[at+3:at+5])
	number, ok3 := below(d.per, s[at+6:])
	if !ok || !ok1 || !ok2 || !ok3 {
		return 0, false
	}
	return ((hours*60+minutes)*60+seconds)*d.per + number, true
}

// readHours reads hours with the colon behind them.
func (d dial) readHours(s string) (int64, bool) {
	if s == "" {
		return 0, d.short
	}
	s, colon := strings.CutSuffix(s, ":")
	if !colon || len(s) < d.hours || len(s) > mostHours {
		return 0, false
	}
	if len(s) > d.hours && s[0] == '0' {
		return 0, false
	}
	return digits(s)
}

// below reads digits that say less than a bound.
func below(bound int64, s string) (int64, bool) {
	n, ok := digits(s)
	return n, ok && n < bound
}

// digits reads a text of nothing but digits, few enough to fit.
func digits(s string) (int64, bool) {
	n := int64(0)
	for i := range len(s) {
		if s[i] < '0' || s[i] > '9' {
			return 0, false
		}
		n = n*10 + int64(s[i]-'0')
	}
	return n, true
}
