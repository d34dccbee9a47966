package timestamp

import (
	"logtide/api"
	"logtide/ascii"
)

// cursor reads a text from its beginning. What it reads after it has failed does not count, so that a form looks at failed once, after all of its parts.
type cursor struct {
	text   string
	at     int
	failed bool
}

// end is what peek returns at the end. No form takes this byte, so that nothing needs to tell it from the end.
const end = 0

// peek returns the next byte.
func (c *cursor) peek() byte {
	if c.at == len(c.text) {
		return end
	}
	return c.text[c.at]
}

// take skips the next byte if it is b.
func (c *cursor) take(b byte) bool {
	if c.peek() != b {
		return false
	}
	c.at++
	return true
}

// expect skips the next byte, which must be b.
func (c *cursor) expect(b byte) {
	if !c.take(b) {
		c.failed = true
	}
}

// digits reads from least to most digits, as many as there are.
func (c *cursor) digits(least, most int) string {
	from := c.at
	for c.at-from < most && ascii.Digit(c.peek()) {
		c.at++
	}
	if c.at-from < least {
		c.failed = true
	}
	return c.text[from:c.at]
}

// number reads digits as a number.
func (c *cursor) number(least, most int) int {
	n, _ := ascii.Number(c.digits(least, most))
	return n
}

// year reads a year of two or of four digits.
func (c *cursor) year() int {
	digits := c.digits(2, 4)
	n, _ := ascii.Number(digits)
	switch {
	case len(digits) == 4:
		return n
	case len(digits) == 3:
		c.failed = true
		return 0
	case n < 70:
		return 2000 + n
	}
	return 1900 + n
}

// month reads the name of a month.
func (c *cursor) month() int {
	const letters = 3
	from := c.at
	c.at = min(from+letters, len(c.text))
	n := Month(c.text[from:c.at])
	if n == 0 {
		c.failed = true
	}
	return n
}

// clock reads a time of day.
func (c *cursor) clock(d *api.Date) {
	d.Hour = c.number(2, 2)
	c.expect(':')
	d.Minute = c.number(2, 2)
	c.expect(':')
	d.Second = c.number(2, 2)
	d.Millisecond = c.fraction()
}

// fraction reads the fraction of a second, if there is one, in milliseconds.
func (c *cursor) fraction() int {
	tried := *c
	if !tried.take('.') && !tried.take(',') {
		return 0
	}
	digits := tried.digits(1, 9)
	if tried.failed {
		return 0
	}
	*c = tried
	n, _ := ascii.Number((digits + "00")[:3])
	return n
}

// zone reads a zone in minutes. If there is none, it returns the one that is given.
func (c *cursor) zone(given int) int {
	if c.take('Z') {
		return 0
	}
	tried := *c
	sign := 1
	if tried.take('-') {
		sign = -1
	} else {
		tried.expect('+')
	}
	hours := tried.number(2, 2)
	tried.take(':')
	minutes := tried.number(2, 2)
	if tried.failed {
		return given
	}
	*c = tried
	return sign * (60*hours + minutes)
}
