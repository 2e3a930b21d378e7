package code

import "surtitle/api"

// count is how a rate's time codes count: the numbers of a second, and how many are left out at a minute's beginning.
type count struct {
	full, left int64
}

// countOf tells how a rate counts; without Drop nothing is left out.
func countOf(r api.Rate) count {
	c := count{full: int64((r.Num + r.Den - 1) / r.Den)}
	if r.Drop {
		c.left = leftOut(r)
	}
	return c
}

// leftOut tells how many numbers a minute leaves out where the rate may have Drop; 0: it may not.
func leftOut(r api.Rate) int64 {
	pair := [2]int{r.Num, r.Den}
	if pair == [2]int{30000, 1001} {
		return 2
	}
	if pair == [2]int{60000, 1001} {
		return 4
	}
	return 0
}

// minute tells the numbers of a minute, those that are left out too.
func (c count) minute() int64 { return 60 * c.full }

// number tells the number that a frame has.
func (c count) number(frame int64) int64 {
	most := c.minute()
	ten := 10*most - 9*c.left
	tens, rest := frame/ten, frame%ten
	if rest >= most {
		// The first of ten minutes is whole; each one behind it leaves out as much.
		rest += c.left * (1 + (rest-most)/(most-c.left))
	}
	return tens*10*most + rest
}

// skips tells whether a number is left out.
func (c count) skips(number int64) bool {
	return number/c.minute()%10 != 0 && number%c.minute() < c.left
}

// frame tells the frame that has a number; it is none that is left out.
func (c count) frame(number int64) int64 {
	minutes := number / c.minute()
	return number - c.left*(minutes-minutes/10)
}

// dial tells the form of a rate's time codes.
func (c count) dial(drop bool) dial {
	d := dial{hours: 2, mark: ':', per: c.full, digits: 2}
	if drop {
		d.mark = ';'
	}
	if c.full > 100 {
		d.digits = 3
	}
	return d
}

// Label tells a frame's time code, Number a time code's frame.
func Label(r api.Rate, frame int64) (string, api.Errno) {
	if _, e := Time(r, frame); e != api.OK {
		return "", e
	}
	c := countOf(r)
	return c.dial(r.Drop).write(c.number(frame)), api.OK
}

func Number(r api.Rate, label string) (int64, api.Errno) {
	if e := Check(r); e != api.OK {
		return 0, e
	}
	c := countOf(r)
	number, ok := c.dial(r.Drop).read(label)
	if !ok {
		return 0, api.ErrNumber
	}
	if c.skips(number) {
		return 0, api.ErrDrop
	}
	frame := c.frame(number)
	if _, e := Time(r, frame); e != api.OK {
		return 0, e
	}
	return frame, api.OK
}
