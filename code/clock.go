package code

import (
	"surtitle/api"
	"surtitle/ratio"
)

// dialOf tells the form of a format's clocks; false: it has none.
func dialOf(format int) (dial, bool) {
	switch format {
	case api.FSrt:
		return dial{hours: 2, mark: ',', per: 1000, digits: 3}, true
	case api.FVtt:
		return dial{hours: 2, mark: '.', per: 1000, digits: 3, short: true}, true
	case api.FAss:
		return dial{hours: 1, mark: '.', per: 100, digits: 2}, true
	}
	return dial{}, false
}

// Clock writes a time for a format, ParseClock reads one.
func Clock(format int, t api.Ratio) (string, api.Errno) {
	d, ok := dialOf(format)
	if !ok {
		return "", api.ErrKind
	}
	if e := ratio.Time(t); e != api.OK {
		return "", e
	}
	n, e := ratio.Mul(t, api.Ratio{N: d.per, D: 1})
	if e != api.OK || n.D != 1 {
		return "", api.ErrArg
	}
	return d.write(n.N), api.OK
}

func ParseClock(format int, s string) (api.Ratio, api.Errno) {
	d, ok := dialOf(format)
	if !ok {
		return api.Ratio{}, api.ErrKind
	}
	n, ok := d.read(s)
	if !ok {
		return api.Ratio{}, api.ErrNumber
	}
	t, e := ratio.New(n, d.per)
	if e != api.OK {
		return api.Ratio{}, e
	}
	if e := ratio.Time(t); e != api.OK {
		return api.Ratio{}, e
	}
	return t, api.OK
}
