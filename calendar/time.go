package calendar

import (
	"strings"

	"logtide/api"
	"logtide/ascii"
)

const (
	minuteMillis = 60 * 1000
	dayMillis    = 24 * 60 * minuteMillis

	firstTime = firstDay * dayMillis
	maxZone   = 24 * 60
)

// Check returns the error of a date.
func Check(d api.Date) api.Errno {
	_, valid := Days(d.Year, d.Month, d.Day)
	if !valid || !below(d.Hour, 24) || !below(d.Minute, 60) || !below(d.Second, 60) || !below(d.Millisecond, 1000) {
		return api.ErrDate
	}
	return api.OK
}

// below reports whether n is from 0 to the number before limit.
func below(n, limit int) bool { return 0 <= n && n < limit }

// Millis returns the time of a date.
func Millis(d api.Date, zone int) (int, api.Errno) {
	if err := Check(d); err != api.OK {
		return 0, err
	}
	if !isZone(zone) {
		return 0, api.ErrRange
	}
	days, _ := Days(d.Year, d.Month, d.Day)
	minutes := (days*24+d.Hour)*60 + d.Minute - zone
	ms := minutes*minuteMillis + d.Second*1000 + d.Millisecond
	if !isTime(ms) {
		return 0, api.ErrRange
	}
	return ms, api.OK
}

func isZone(zone int) bool { return -maxZone <= zone && zone <= maxZone }

func isTime(ms int) bool { return firstTime <= ms && ms <= api.MaxTime }

// Dates returns the date of a time.
func Dates(ms, zone int) (api.Date, api.Errno) {
	if !isTime(ms) || !isZone(zone) {
		return api.Date{}, api.ErrRange
	}
	local := ms + zone*minuteMillis
	if !isTime(local) {
		return api.Date{}, api.ErrRange
	}
	// Counted from firstTime, no part of the time is negative.
	passed := local - firstTime
	year, month, day, _ := Civil(firstDay + passed/dayMillis)
	return api.Date{
		Year:        year,
		Month:       month,
		Day:         day,
		Hour:        passed / (60 * minuteMillis) % 24,
		Minute:      passed / minuteMillis % 60,
		Second:      passed / 1000 % 60,
		Millisecond: passed % 1000,
	}, api.OK
}

// Format formats a time.
func Format(ms, zone int) (string, api.Errno) {
	d, err := Dates(ms, zone)
	if err != api.OK {
		return "", err
	}
	var text strings.Builder
	text.WriteString(padded(d.Year, 4) + "-" + padded(d.Month, 2) + "-" + padded(d.Day, 2) + "T")
	text.WriteString(padded(d.Hour, 2) + ":" + padded(d.Minute, 2) + ":" + padded(d.Second, 2) + "." + padded(d.Millisecond, 3))
	printZone := func(sign string, minutes int) {
		text.WriteString(sign + padded(minutes/60, 2) + ":" + padded(minutes%60, 2))
	}
	switch {
	case zone == 0:
		text.WriteByte('Z')
	case zone > 0:
		printZone("+", zone)
	default:
		printZone("-", -zone)
	}
	return text.String(), api.OK
}

// padded returns a number from 0 on with at least so many digits.
func padded(n, digits int) string {
	s := ascii.Decimal(n)
	return strings.Repeat("0", max(digits-len(s), 0)) + s
}
