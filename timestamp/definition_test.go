package timestamp_test

import (
	"regexp"
	"slices"
	"strconv"
	"strings"
	"time"

	"logtide/api"
	"logtide/calendar"
)

// The functions of this file are the promises word for word, on regular expressions and on Go's own calendar.

const (
	firstTime = -62135596800000
	maxZone   = 1440
	dayMillis = 86400000
)

var monthOrder = []string{"jan", "feb", "mar", "apr", "may", "jun", "jul", "aug", "sep", "oct", "nov", "dec"}

const clockSource = `([0-9]{2}):([0-9]{2}):([0-9]{2})(?:[.,]([0-9]{1,9}))?`

var (
	form1 = regexp.MustCompile(`^([0-9]{4})-([0-9]{2})-([0-9]{2})[T ]` + clockSource + `(Z|[+-][0-9]{2}:[0-9]{2}|[+-][0-9]{4})?`)
	form2 = regexp.MustCompile(`^([A-Za-z]{3})  ?([0-9]{1,2}) ` + clockSource)
	form3 = regexp.MustCompile(`^([0-9]{1,2})/([0-9]{1,2})/([0-9]{4}|[0-9]{2}) ` + clockSource)
	form4 = regexp.MustCompile(`^([0-9]{10}|[0-9]{13})(?:[^0-9]|$)`)
	form5 = regexp.MustCompile(`^` + clockSource)
)

// arguments are those of Recover beside the string.
type arguments struct {
	ref, year, zone int
	dayFirst        bool
}

// recoverByDefinition is P6.1, P6.2 and P6.4. It also returns the form, and 0 if none fits.
func recoverByDefinition(s string, a arguments) (ms, used int, err api.Errno, form int) {
	if len(s) > api.MaxText {
		return 0, 0, api.ErrNoMatch, 0
	}
	for i, fits := range []*regexp.Regexp{form1, form2, form3, form4, form5} {
		m := fits.FindStringSubmatch(s)
		if m == nil || i == 1 && monthByDefinition(m[1]) == 0 {
			continue
		}
		used = len(m[0])
		switch i {
		case 0:
			ms, err = fullByDefinition(m, a)
		case 1:
			ms, err = syslogByDefinition(m, a)
		case 2:
			ms, err = slashesByDefinition(m, a)
		case 3:
			used = len(m[1])
			ms = number(m[1])
			if used == 10 {
				ms *= 1000
			}
		case 4:
			ms, err = clockByDefinition(m, a)
		}
		if err != api.OK {
			ms, used = 0, 0
		}
		return ms, used, err, i + 1
	}
	return 0, 0, api.ErrNoMatch, 0
}

func number(s string) int {
	n, err := strconv.Atoi(s)
	if err != nil {
		panic(err)
	}
	return n
}

// withClock returns d with the time of day that clockSource matched.
func withClock(d api.Date, m []string) api.Date {
	d.Hour, d.Minute, d.Second = number(m[0]), number(m[1]), number(m[2])
	for i, unit := range []int{100, 10, 1} {
		if i < len(m[3]) {
			d.Millisecond += unit * int(m[3][i]-'0')
		}
	}
	return d
}

func fullByDefinition(m []string, a arguments) (int, api.Errno) {
	zone := a.zone
	if z := strings.ReplaceAll(m[8], ":", ""); z == "Z" {
		zone = 0
	} else if z != "" {
		zone = 60*number(z[1:3]) + number(z[3:5])
		if z[0] == '-' {
			zone = -zone
		}
	}
	return calendar.Millis(withClock(api.Date{Year: number(m[1]), Month: number(m[2]), Day: number(m[3])}, m[4:]), zone)
}

func syslogByDefinition(m []string, a arguments) (int, api.Errno) {
	d := withClock(api.Date{Year: a.year, Month: monthByDefinition(m[1]), Day: number(m[2])}, m[3:])
	if a.year == 0 {
		return nearestByDefinition(d, a.ref, a.zone)
	}
	return calendar.Millis(d, a.zone)
}

func slashesByDefinition(m []string, a arguments) (int, api.Errno) {
	month, day, year := number(m[1]), number(m[2]), number(m[3])
	switch {
	case month > 12 && day > 12:
		return 0, api.ErrDate
	case month > 12, a.dayFirst && day <= 12:
		month, day = day, month
	}
	if len(m[3]) == 2 {
		year += 1900
		if year < 1970 {
			year += 100
		}
	}
	return calendar.Millis(withClock(api.Date{Year: year, Month: month, Day: day}, m[4:]), a.zone)
}

func clockByDefinition(m []string, a arguments) (int, api.Errno) {
	if _, err := calendar.Dates(a.ref, a.zone); err != api.OK {
		return 0, err
	}
	var times []int
	for days := -1; days <= 1; days++ {
		local := time.UnixMilli(int64(a.ref)).In(location(a.zone)).AddDate(0, 0, days)
		d := withClock(api.Date{Year: local.Year(), Month: int(local.Month()), Day: local.Day()}, m[1:])
		if ms, err := calendar.Millis(d, a.zone); err == api.OK {
			times = append(times, ms)
		}
	}
	return nearestTime(times, a.ref)
}

func location(zone int) *time.Location { return time.FixedZone("", zone*60) }

// monthByDefinition is P6.3.
func monthByDefinition(s string) int {
	for i, name := range monthOrder {
		lower := []byte(s)
		for j, c := range lower {
			if c >= 'A' && c <= 'Z' {
				lower[j] = c + 32
			}
		}
		if string(lower) == name {
			return i + 1
		}
	}
	return 0
}

// nearestByDefinition is P6.3.
func nearestByDefinition(d api.Date, ref, zone int) (int, api.Errno) {
	if _, err := calendar.Dates(ref, zone); err != api.OK {
		return 0, err
	}
	local := time.UnixMilli(int64(ref)).In(location(zone)).Year()
	var times []int
	for _, year := range []int{local - 1, local, local + 1} {
		d.Year = year
		if ms, err := calendar.Millis(d, zone); err == api.OK {
			times = append(times, ms)
		}
	}
	return nearestTime(times, ref)
}

// nearestTime returns the time that is nearest to ref, the earlier one of two; ErrDate if there is none.
func nearestTime(times []int, ref int) (int, api.Errno) {
	if len(times) == 0 {
		return 0, api.ErrDate
	}
	slices.Sort(times)
	least := slices.MinFunc(times, func(a, b int) int { return apart(a, ref) - apart(b, ref) })
	return least, api.OK
}

func apart(a, b int) int {
	if a < b {
		return b - a
	}
	return a - b
}
