package calendar_test

import (
	"math/big"
	"time"

	"logtide/api"
)

// The functions of this file are the promises word for word, on Go's own calendar.

const (
	firstTime = -62135596800000
	maxZone   = 1440
)

func lengthByDefinition(year, month int) int {
	switch month {
	case 2:
		if year%400 == 0 || year%4 == 0 && year%100 != 0 {
			return 29
		}
		return 28
	case 4, 6, 9, 11:
		return 30
	}
	return 31
}

// checkByDefinition is P5.2.
func checkByDefinition(d api.Date) api.Errno {
	switch {
	case d.Year < 1, d.Year > 9999, d.Month < 1, d.Month > 12, d.Day < 1, d.Day > lengthByDefinition(d.Year, d.Month):
		return api.ErrDate
	case d.Hour < 0, d.Hour > 23, d.Minute < 0, d.Minute > 59, d.Second < 0, d.Second > 59, d.Millisecond < 0, d.Millisecond > 999:
		return api.ErrDate
	}
	return api.OK
}

func wrongZone(zone int) bool { return zone < -maxZone || zone > maxZone }

func wrongTime(ms int) bool { return ms < firstTime || ms > api.MaxTime }

func location(zone int) *time.Location { return time.FixedZone("", zone*60) }

// millisByDefinition is P5.3.
func millisByDefinition(d api.Date, zone int) (int, api.Errno) {
	if err := checkByDefinition(d); err != api.OK {
		return 0, err
	}
	if wrongZone(zone) {
		return 0, api.ErrRange
	}
	ms := int(time.Date(d.Year, time.Month(d.Month), d.Day, d.Hour, d.Minute, d.Second, d.Millisecond*1000000, location(zone)).UnixMilli())
	if wrongTime(ms) {
		return 0, api.ErrRange
	}
	return ms, api.OK
}

// datesByDefinition is P5.3.
func datesByDefinition(ms, zone int) (api.Date, api.Errno) {
	if wrongTime(ms) || wrongZone(zone) {
		return api.Date{}, api.ErrRange
	}
	local := time.UnixMilli(int64(ms)).In(location(zone))
	if local.Year() < 1 || local.Year() > 9999 {
		return api.Date{}, api.ErrRange
	}
	return api.Date{
		Year: local.Year(), Month: int(local.Month()), Day: local.Day(),
		Hour: local.Hour(), Minute: local.Minute(), Second: local.Second(), Millisecond: local.Nanosecond() / 1000000,
	}, api.OK
}

// formatByDefinition is P5.4.
func formatByDefinition(ms, zone int) (string, api.Errno) {
	if _, err := datesByDefinition(ms, zone); err != api.OK {
		return "", err
	}
	return time.UnixMilli(int64(ms)).In(location(zone)).Format("2006-01-02T15:04:05.000Z07:00"), api.OK
}

// weekdayByDefinition is P5.1.
func weekdayByDefinition(days int) int {
	sinceMonday := new(big.Int).Add(big.NewInt(int64(days)), big.NewInt(3))
	return int(sinceMonday.Mod(sinceMonday, big.NewInt(7)).Int64())
}
