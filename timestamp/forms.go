package timestamp

import (
	"logtide/api"
	"logtide/ascii"
	"logtide/calendar"
)

// hints is what the caller knows of the parts that may be missing in a string.
type hints struct {
	ref, year, zone int
	dayFirst        bool
}

// form reads a time. It returns ErrNoMatch if the string does not have this form; any other error is one of a string that does, so that no further form is tried.
type form func(*cursor, hints) (int, api.Errno)

// forms returns the forms in the order in which they are tried.
func forms() []form {
	return []form{readFull, readSyslog, readSlashes, readEpoch, readClock}
}

// readFull reads a date and a time of day, such as 2026-01-02T03:04:05+01:00.
func readFull(c *cursor, h hints) (int, api.Errno) {
	var d api.Date
	d.Year = c.number(4, 4)
	c.expect('-')
	d.Month = c.number(2, 2)
	c.expect('-')
	d.Day = c.number(2, 2)
	if !c.take('T') {
		c.expect(' ')
	}
	c.clock(&d)
	zone := c.zone(h.zone)
	if c.failed {
		return 0, api.ErrNoMatch
	}
	return calendar.Millis(d, zone)
}

// readSyslog reads a date without a year, such as Jan  2 03:04:05.
func readSyslog(c *cursor, h hints) (int, api.Errno) {
	var d api.Date
	d.Month = c.month()
	c.expect(' ')
	c.take(' ')
	d.Day = c.number(1, 2)
	c.expect(' ')
	c.clock(&d)
	if c.failed {
		return 0, api.ErrNoMatch
	}
	if h.year == 0 {
		return Nearest(d, h.ref, h.zone)
	}
	d.Year = h.year
	return calendar.Millis(d, h.zone)
}

// readSlashes reads a date whose day and month are in either order, such as 1/2/2026 03:04:05.
func readSlashes(c *cursor, h hints) (int, api.Errno) {
	var d api.Date
	d.Month = c.number(1, 2)
	c.expect('/')
	d.Day = c.number(1, 2)
	c.expect('/')
	d.Year = c.year()
	c.expect(' ')
	c.clock(&d)
	if c.failed {
		return 0, api.ErrNoMatch
	}
	if h.dayFirst {
		d.Month, d.Day = d.Day, d.Month
	}
	// If both are too great for a month, so is the month after this, and Millis returns the error.
	if d.Month > 12 {
		d.Month, d.Day = d.Day, d.Month
	}
	return calendar.Millis(d, h.zone)
}

// readEpoch reads the seconds or the milliseconds since 1970, such as 1767312000 or 1767312000123. All of them are within the years of the calendar.
func readEpoch(c *cursor, _ hints) (int, api.Errno) {
	const seconds, millis = 10, 13
	// One digit more than there may be, because none may follow.
	digits := c.digits(seconds, millis+1)
	n, _ := ascii.Number(digits)
	switch len(digits) {
	case seconds:
		return n * 1000, api.OK
	case millis:
		return n, api.OK
	}
	return 0, api.ErrNoMatch
}

// readClock reads a time of day without a date, such as 03:04:05.
func readClock(c *cursor, h hints) (int, api.Errno) {
	var d api.Date
	c.clock(&d)
	if c.failed {
		return 0, api.ErrNoMatch
	}
	return nearestDay(d, h.ref, h.zone)
}
