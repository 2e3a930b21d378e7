package code

import (
	"strconv"
	"strings"

	"surtitle/api"
)

// mostDigits is how many digits a number of a rate has at most, as text.
const mostDigits = 9

// Rate reads a rate as text, RateText writes one.
func Rate(s string) (api.Rate, api.Errno) {
	r, ok := readRate(s)
	if !ok {
		return api.Rate{}, api.ErrNumber
	}
	if e := Check(r); e != api.OK {
		return api.Rate{}, e
	}
	return r, api.OK
}

func RateText(r api.Rate) (string, api.Errno) {
	if e := Check(r); e != api.OK {
		return "", e
	}
	s := strconv.Itoa(r.Num)
	if r.Den != 1 {
		s += "/" + strconv.Itoa(r.Den)
	}
	if r.Drop {
		s += "d"
	}
	return s, api.OK
}

// readRate reads a text of a rate's form, whether or not it says a rate.
func readRate(s string) (api.Rate, bool) {
	s, drop := strings.CutSuffix(s, "d")
	top, bottom, parted := strings.Cut(s, "/")
	num, ok := whole(top)
	if !ok || !parted {
		return api.Rate{Num: num, Den: 1, Drop: drop}, ok
	}
	den, ok := whole(bottom)
	return api.Rate{Num: num, Den: den, Drop: drop}, ok && den != 1
}

// whole reads a number without noughts ahead.
func whole(s string) (int, bool) {
	if s == "" || len(s) > mostDigits || len(s) > 1 && s[0] == '0' {
		return 0, false
	}
	n, ok := digits(s)
	return int(n), ok
}
