package timestamp_test

import (
	"math"
	"strings"
	"testing"
	"time"

	"logtide/api"
	"logtide/calendar"
	"logtide/timestamp"
)

// utc returns the time of a date and a time of day in UTC.
func utc(year, month, day, hour, minute, second, millisecond int) int {
	return int(time.Date(year, time.Month(month), day, hour, minute, second, millisecond*1000000, time.UTC).UnixMilli())
}

// reference is the one of most tests, a Friday.
var reference = utc(2026, 1, 2, 12, 0, 0, 0)

func checkRecover(t *testing.T, s string, a arguments, want, wantUsed int) {
	t.Helper()
	got, used, err := timestamp.Recover(s, a.ref, a.year, a.zone, a.dayFirst)
	if got != want || used != wantUsed || err != api.OK {
		t.Errorf("Recover(%q, %+v) = %d, %d, %d, want %d, %d", s, a, got, used, err, want, wantUsed)
	}
}

func checkError(t *testing.T, s string, a arguments, want api.Errno) {
	t.Helper()
	got, used, err := timestamp.Recover(s, a.ref, a.year, a.zone, a.dayFirst)
	if got != 0 || used != 0 || err != want {
		t.Errorf("Recover(%.40q, %+v) = %d, %d, %d, want 0, 0, %d", s, a, got, used, err, want)
	}
}

// P6.1 and P6.2

func TestFullDate(t *testing.T) {
	local := utc(2026, 11, 20, 3, 4, 5, 0)
	for _, c := range []struct {
		s          string
		want, used int // want is in milliseconds after local
	}{
		{"2026-11-20T03:04:05", 0, 19},
		{"2026-11-20 03:04:05", 0, 19},
		{"2026-11-20 03:04:05 error", 0, 19},
		{"2026-11-20T03:04:056", 0, 19},
		{"2026-11-20T03:04:05.6", 600, 21},
		{"2026-11-20T03:04:05,67", 670, 22},
		{"2026-11-20T03:04:05.678", 678, 23},
		{"2026-11-20T03:04:05.067", 67, 23},
		{"2026-11-20T03:04:05.6789", 678, 24},
		{"2026-11-20T03:04:05,000999999", 0, 29},
		{"2026-11-20T03:04:05.678999999", 678, 29},
		{"2026-11-20T03:04:05.6789999999", 678, 29},
		{"2026-11-20T03:04:05.", 0, 19},
		{"2026-11-20T03:04:05,", 0, 19},
		{"2026-11-20T03:04:05.x", 0, 19},
		{"2026-11-20T03:04:05..5", 0, 19},
		{"2026-11-20T03:04:05;5", 0, 19},
	} {
		checkRecover(t, c.s, arguments{}, local+c.want, c.used)
		checkRecover(t, c.s, arguments{ref: reference, year: 1999, zone: 90, dayFirst: true}, local+c.want-90*60000, c.used)
	}
}

func TestZoneOfFullDate(t *testing.T) {
	const none = 77
	for _, c := range []struct {
		tail       string
		zone, used int // used of tail
	}{
		{"Z", 0, 1}, {"Zulu", 0, 1}, {"Z+01:00", 0, 1},
		{"+01:00", 60, 6}, {"+0100", 60, 5}, {"-01:00", -60, 6}, {"-0100", -60, 5},
		{"+05:45", 345, 6}, {"-0930 x", -570, 5}, {"+00:00", 0, 6}, {"-0000", 0, 5},
		{"+24:00", 1440, 6}, {"-24:00", -1440, 6}, {"-2400", -1440, 5},
		{"+00:99", 99, 6}, {"-0090", -90, 5},
		{"+010000", 60, 5}, {"+01:000", 60, 6}, {"+01:00:00", 60, 6}, {"+01:00Z", 60, 6},
		{"", none, 0}, {" ", none, 0}, {"z", none, 0}, {"T", none, 0}, {" Z", none, 0}, {" +01:00", none, 0},
		{"+", none, 0}, {"-", none, 0}, {"+1", none, 0}, {"+01", none, 0}, {"+01:", none, 0}, {"+010", none, 0}, {"+01:0", none, 0},
		{"+1:00", none, 0}, {"+01 00", none, 0}, {"+01.00", none, 0}, {"+01::00", none, 0}, {"+01:0x", none, 0}, {"-01-00", none, 0}, {"-x100", none, 0},
		{":01:00", none, 0}, {"--0100", none, 0}, {"+-0100", none, 0}, {"-+0100", none, 0},
	} {
		for _, text := range []string{"2026-11-20T03:04:05", "2026-11-20 03:04:05.250", "2026-11-20T03:04:05,250999999"} {
			want := utc(2026, 11, 20, 3, 4, 5, 0) - c.zone*60000
			if len(text) > 19 {
				want += 250
			}
			checkRecover(t, text+c.tail, arguments{zone: none}, want, len(text)+c.used)
		}
	}
	checkRecover(t, "2026-11-20T03:04:0501:00", arguments{zone: none}, utc(2026, 11, 20, 1, 47, 5, 0), 19)
	// Nothing is a zone after a fraction that was not read, or not to its end.
	checkRecover(t, "2026-11-20T03:04:05.Z", arguments{zone: none}, utc(2026, 11, 20, 1, 47, 5, 0), 19)
	checkRecover(t, "2026-11-20T03:04:05.1234567890Z", arguments{zone: none}, utc(2026, 11, 20, 1, 47, 5, 123), 29)
}

func TestSyslogDate(t *testing.T) {
	for i, name := range monthOrder {
		for _, month := range []string{name, strings.ToUpper(name), strings.ToUpper(name[:1]) + name[1:], name[:2] + strings.ToUpper(name[2:])} {
			at := func(day, ms int) int { return utc(2024, i+1, day, 3, 4, 5, ms) }
			a := arguments{ref: reference, year: 2024}
			checkRecover(t, month+" 2 03:04:05", a, at(2, 0), 14)
			checkRecover(t, month+"  2 03:04:05 host", a, at(2, 0), 15)
			checkRecover(t, month+" 02 03:04:05.", a, at(2, 0), 15)
			checkRecover(t, month+"  02 03:04:05", a, at(2, 0), 16)
			checkRecover(t, month+" 29 03:04:05,25", a, at(29, 250), 18)
			checkRecover(t, month+"  29 03:04:05.1234567890", a, at(29, 123), 26)
			// No zone is read.
			checkRecover(t, month+" 2 03:04:05Z", a, at(2, 0), 14)
			a.zone = -60
			checkRecover(t, month+" 2 03:04:05+02:00", a, at(2, 0)+3600000, 14)
		}
	}
}

func TestYearOfSyslogDate(t *testing.T) {
	for _, c := range []struct {
		s         string
		ref, year int
		want      int
	}{
		{"Dec 31 23:59:59", reference, 0, utc(2025, 12, 31, 23, 59, 59, 0)},
		{"Jan  2 12:00:00", reference, 0, reference},
		{"Jan  3 12:00:00", reference, 0, utc(2026, 1, 3, 12, 0, 0, 0)},
		{"Jan  1 00:00:00", utc(2025, 12, 31, 0, 0, 0, 0), 0, utc(2026, 1, 1, 0, 0, 0, 0)},
		{"Feb 29 00:00:00", utc(2025, 2, 28, 0, 0, 0, 0), 0, utc(2024, 2, 29, 0, 0, 0, 0)},
		{"Dec 31 23:59:59", reference, 2026, utc(2026, 12, 31, 23, 59, 59, 0)},
		{"Dec 31 23:59:59", reference, 1, utc(1, 12, 31, 23, 59, 59, 0)},
		{"Dec 31 23:59:59", reference, 9999, utc(9999, 12, 31, 23, 59, 59, 0)},
		// A reference is not needed with a year.
		{"Dec 31 23:59:59", math.MinInt, 2026, utc(2026, 12, 31, 23, 59, 59, 0)},
	} {
		checkRecover(t, c.s, arguments{ref: c.ref, year: c.year}, c.want, len(c.s))
	}
}

func TestDateWithSlashes(t *testing.T) {
	for _, c := range []struct {
		s          string
		dayFirst   bool
		month, day int
	}{
		{"1/2/2026 03:04:05", false, 1, 2}, {"1/2/2026 03:04:05", true, 2, 1},
		{"01/2/2026 03:04:05", false, 1, 2}, {"1/02/2026 03:04:05", true, 2, 1}, {"01/02/2026 03:04:05", true, 2, 1},
		{"12/11/2026 03:04:05", false, 12, 11}, {"12/11/2026 03:04:05", true, 11, 12}, {"12/12/2026 03:04:05", true, 12, 12},
		{"12/13/2026 03:04:05", false, 12, 13}, {"12/13/2026 03:04:05", true, 12, 13},
		{"13/12/2026 03:04:05", false, 12, 13}, {"13/12/2026 03:04:05", true, 12, 13},
		{"31/1/2026 03:04:05", false, 1, 31}, {"1/31/2026 03:04:05", true, 1, 31},
	} {
		want := utc(2026, c.month, c.day, 3, 4, 5, 0)
		checkRecover(t, c.s, arguments{dayFirst: c.dayFirst}, want, len(c.s))
		checkRecover(t, c.s+".", arguments{dayFirst: c.dayFirst, zone: 60, year: 1999}, want-3600000, len(c.s))
		// No zone is read.
		checkRecover(t, c.s+",1234567890Z", arguments{dayFirst: c.dayFirst, zone: 60}, want+123-3600000, len(c.s)+10)
		checkRecover(t, c.s+"+02:00", arguments{dayFirst: c.dayFirst}, want, len(c.s))
	}
	for year, want := range map[string]int{
		"00": 2000, "01": 2001, "26": 2026, "68": 2068, "69": 2069, "70": 1970, "71": 1971, "99": 1999,
		"0001": 1, "0026": 26, "0070": 70, "0999": 999, "1969": 1969, "1970": 1970, "2070": 2070, "9999": 9999,
	} {
		checkRecover(t, "3/4/"+year+" 00:00:00", arguments{}, utc(want, 3, 4, 0, 0, 0, 0), 13+len(year))
	}
}

func TestSecondsAndMilliseconds(t *testing.T) {
	for _, c := range []struct {
		s          string
		want, used int
	}{
		{"1767312000", 1767312000000, 10}, {"1767312000 x", 1767312000000, 10}, {"1767312000.5", 1767312000000, 10}, {"1767312000Z", 1767312000000, 10}, {"1767312000-2", 1767312000000, 10},
		{"0000000000", 0, 10}, {"0000000001", 1000, 10}, {"9999999999", 9999999999000, 10}, {"2026110103:04:05", 2026110103000, 10},
		{"1767312000123", 1767312000123, 13}, {"1767312000123]", 1767312000123, 13}, {"0000000000000", 0, 13}, {"0000000000001", 1, 13}, {"9999999999999", 9999999999999, 13}, {"1767312000123\x00", 1767312000123, 13},
	} {
		// Neither the reference nor the zone is needed.
		for _, a := range []arguments{{}, {ref: reference, year: 1999, zone: 60}, {ref: math.MaxInt, year: -1, zone: maxZone + 1}} {
			checkRecover(t, c.s, a, c.want, c.used)
		}
	}
}

func TestTimeOfDay(t *testing.T) {
	at := func(day, hour, minute int) int { return utc(2026, 1, day, hour, minute, 0, 0) }
	for _, c := range []struct {
		s         string
		ref, zone int
		want      int
	}{
		{"00:00:00", at(2, 0, 0), 0, at(2, 0, 0)},
		{"13:00:00", at(2, 12, 0), 0, at(2, 13, 0)},
		{"11:00:00", at(2, 12, 0), 0, at(2, 11, 0)},
		{"23:30:00", at(2, 0, 15), 0, at(1, 23, 30)},
		{"00:15:00", at(2, 23, 30), 0, at(3, 0, 15)},
		{"00:00:00", at(1, 23, 0), 0, at(2, 0, 0)},
		{"23:59:00", at(1, 0, 0), 0, utc(2025, 12, 31, 23, 59, 0, 0)},
		{"00:00:00", utc(2025, 12, 31, 23, 59, 59, 999), 0, at(1, 0, 0)},
		// Twelve hours before and after: the earlier one.
		{"00:00:00", at(2, 12, 0), 0, at(2, 0, 0)},
		{"12:00:00", at(2, 0, 0), 0, at(1, 12, 0)},
		{"18:00:00", at(2, 6, 0), 0, at(1, 18, 0)},
		{"00:00:00", at(2, 12, 0) + 1, 0, at(3, 0, 0)},
		{"12:00:00", at(2, 0, 0) + 1, 0, at(2, 12, 0)},
		// The local days of the reference are the 3rd and the 1st.
		{"00:30:00", at(2, 23, 30), 60, at(2, 23, 30)},
		{"23:30:00", at(2, 0, 30), -60, at(2, 0, 30)},
		{"00:00:00", at(2, 23, 0), maxZone, at(3, 0, 0)},
		{"23:00:00", at(2, 1, 0), -maxZone, at(1, 23, 0)},
		{"13:00:00", at(2, 12, 0), 60, at(2, 12, 0)},
	} {
		checkRecover(t, c.s, arguments{ref: c.ref, zone: c.zone, year: 1999}, c.want, 8)
		checkRecover(t, c.s+".x", arguments{ref: c.ref, zone: c.zone}, c.want, 8)
		// No zone is read.
		checkRecover(t, c.s+"Z", arguments{ref: c.ref, zone: c.zone}, c.want, 8)
	}
	checkRecover(t, "12:00:00,0019999999", arguments{ref: reference}, reference+1, 18)
}

// Only days on which the time of day has a time count.
func TestTimeOfDayAtTheLimits(t *testing.T) {
	for _, c := range []struct {
		s         string
		ref, zone int
		want      int
	}{
		{"23:59:59", firstTime, 0, utc(1, 1, 1, 23, 59, 59, 0)},
		{"00:00:00", api.MaxTime, 0, utc(9999, 12, 31, 0, 0, 0, 0)},
		{"00:59:59", firstTime, 60, utc(1, 1, 1, 23, 59, 59, 0)},
		{"01:00:00", firstTime, 60, firstTime},
		{"23:00:00", api.MaxTime, -60, utc(9999, 12, 31, 0, 0, 0, 0)},
		{"22:59:59", api.MaxTime, -60, api.MaxTime - 999},
		{"00:00:00", firstTime, maxZone, firstTime},
		{"23:59:59", firstTime, maxZone, utc(1, 1, 1, 23, 59, 59, 0)},
		{"00:00:00", api.MaxTime, -maxZone, utc(9999, 12, 31, 0, 0, 0, 0)},
	} {
		checkRecover(t, c.s, arguments{ref: c.ref, zone: c.zone}, c.want, 8)
	}
}

// P6.1 and P6.4

func TestNoFormFits(t *testing.T) {
	for _, s := range []string{
		"", " ", "x", "\x00", "\xff", "error 2026-11-20T03:04:05", " 2026-11-20T03:04:05", "-2026-11-20T03:04:05", "+2026-11-20T03:04:05",
		"2026", "2026-", "2026-11", "2026-11-20", "2026-11-20T", "2026-11-20T03", "2026-11-20T03:04", "2026-11-20T03:04:", "2026-11-20T03:04:0",
		"026-11-20T03:04:05", "12026-11-20T03:04:05", "2026-1-20T03:04:05", "2026-11-2T03:04:05", "2026-011-20T03:04:05", "2026-11-020T03:04:05",
		"2026-11-20t03:04:05", "2026-11-20  03:04:05", "2026-11-20T 03:04:05", "2026-11-20\t03:04:05", "2026-11-20_03:04:05", "2026-11-2003:04:05",
		"2026-11-20T3:04:05", "2026-11-20T03:4:05", "2026-11-20T03:04:5", "2026-11-20T03.04.05", "2026-11-20T030405", "2026-11-20T03:04 05", "2026-11-20T-3:04:05",
		"2026/11/20 03:04:05", "2026-11/20 03:04:05", "2026:11:20 03:04:05", "2026-1x-20T03:04:05",
		"Jan", "Jan ", "Jan 2", "Jan 2 ", "Jan 2 03:04", "Jan 2 03:04:0", "Ja 2 03:04:05", "Janu 2 03:04:05", "January 2 03:04:05", "Foo 2 03:04:05", "123 2 03:04:05",
		"Jan2 03:04:05", "Jan   2 03:04:05", "Jan\t2 03:04:05", "Jan \t2 03:04:05", "Jan 2  03:04:05", "Jan 2\t03:04:05", "Jan 2T03:04:05", "Jan 203:04:05", "Jan 002 03:04:05", "Jan  03:04:05", "Jan x 03:04:05", "Jan -2 03:04:05", "Jan 2 3:04:05",
		"\u017fep 2 03:04:05", "anF 2 03:04:05", " Jan 2 03:04:05",
		"1/2", "1/2/", "1/2/2026", "1/2/2026 ", "1/2/2026 03:04", "/2/2026 03:04:05", "1//2026 03:04:05", "1/2/ 03:04:05", "1/2/6 03:04:05", "1/2/202 03:04:05", "1/2/20261 03:04:05", "001/2/2026 03:04:05", "1/002/2026 03:04:05",
		"1/2/2026T03:04:05", "1/2/2026  03:04:05", "1/2/2026\t03:04:05", "1/2/26T03:04:05", "1-2-2026 03:04:05", "1/2-2026 03:04:05", "1 /2/2026 03:04:05", "1/2/2026 3:04:05", "1/2/-2026 03:04:05", "1/2/2x26 03:04:05",
		"0", "1", "123456789", "12345678901", "123456789012", "12345678901234", "123456789012345678901", "123456789 0", "-1767312000", "+1767312000", " 1767312000", "x1767312000",
		"03:04", "03:04:", "03:04:5", "3:04:05", "003:04:05", "03:4:05", "03.04.05", "03:04.05", "03 04 05", "0304:05", " 03:04:05", "T03:04:05", "-03:04:05", "::",
	} {
		checkError(t, s, arguments{ref: reference}, api.ErrNoMatch)
		// Nothing else is wrong if there is no time.
		checkError(t, s, arguments{ref: math.MaxInt, year: -1, zone: math.MinInt, dayFirst: true}, api.ErrNoMatch)
	}
}

func TestLongStrings(t *testing.T) {
	for _, s := range []string{"2026-11-20T03:04:05", "Jan  2 03:04:05", "1/2/2026 03:04:05", "1767312000", "1767312000123", "12:00:00"} {
		want, used, err := timestamp.Recover(s, reference, 0, 0, false)
		if used != len(s) || err != api.OK {
			t.Errorf("Recover(%q) = %d, %d, %d", s, want, used, err)
		}
		long := s + strings.Repeat("x", api.MaxText-len(s))
		checkRecover(t, long, arguments{ref: reference}, want, used)
		checkError(t, long+"x", arguments{ref: reference}, api.ErrNoMatch)
		checkError(t, s+strings.Repeat(" ", 5*api.MaxText), arguments{ref: reference}, api.ErrNoMatch)
	}
	checkError(t, strings.Repeat("1", api.MaxText), arguments{}, api.ErrNoMatch)
}

func TestErrorsOfDates(t *testing.T) {
	// The first form that fits decides, also with an error.
	for s, want := range map[string]api.Errno{
		"2026-02-29T00:00:00": api.ErrDate, "0000-01-01T00:00:00": api.ErrDate, "2026-00-01T00:00:00": api.ErrDate, "2026-13-01T00:00:00": api.ErrDate, "2026-01-00T00:00:00": api.ErrDate, "2026-01-32T00:00:00": api.ErrDate,
		"2026-01-01T24:00:00": api.ErrDate, "2026-01-01T23:60:00": api.ErrDate, "2026-01-01T23:59:60": api.ErrDate, "2026-13-01 99:99:99.999Z": api.ErrDate,
		"2026-01-01T00:00:00+24:01": api.ErrRange, "2026-01-01T00:00:00-2401": api.ErrRange, "2026-01-01T00:00:00+99:99": api.ErrRange, "2026-01-01T00:00:00+23:61": api.ErrRange,
		"0001-01-01T00:00:00+00:01": api.ErrRange, "9999-12-31T23:59:59-00:01": api.ErrRange, "2026-02-29T00:00:00+99:99": api.ErrDate,
		"Feb 30 00:00:00": api.ErrDate, "Jan 0 00:00:00": api.ErrDate, "Jan 32 00:00:00": api.ErrDate, "Jan 2 24:00:00": api.ErrDate, "Jan 2 00:60:00": api.ErrDate, "Jan 2 00:00:60": api.ErrDate, "Feb 29 00:00:00": api.ErrDate,
		"13/13/2026 00:00:00": api.ErrDate, "99/99/26 00:00:00": api.ErrDate, "0/1/2026 00:00:00": api.ErrDate, "1/0/2026 00:00:00": api.ErrDate, "1/32/2026 00:00:00": api.ErrDate, "31/4/2026 00:00:00": api.ErrDate, "2/29/26 00:00:00": api.ErrDate, "1/1/0000 00:00:00": api.ErrDate, "1/1/2026 24:00:00": api.ErrDate, "1/1/2026 00:00:60": api.ErrDate,
		"24:00:00": api.ErrDate, "23:60:00": api.ErrDate, "23:59:60": api.ErrDate, "99:99:99": api.ErrDate,
	} {
		checkError(t, s, arguments{ref: reference}, want)
	}
}

func TestErrorsOfArguments(t *testing.T) {
	for _, zone := range []int{maxZone + 1, -maxZone - 1, math.MaxInt, math.MinInt, 1 << 59} {
		for _, s := range []string{"2026-01-01T00:00:00", "2026-01-01T00:00:00+1:00", "Jan 1 00:00:00", "1/1/2026 00:00:00", "00:00:00"} {
			checkError(t, s, arguments{ref: reference, zone: zone}, api.ErrRange)
		}
		checkError(t, "Jan 1 00:00:00", arguments{ref: reference, year: 2026, zone: zone}, api.ErrRange)
		// The error of the date is the first one where the reference is not needed, and the last one where it is.
		checkError(t, "Feb 29 00:00:00", arguments{ref: reference, year: 2026, zone: zone}, api.ErrDate)
		checkError(t, "Feb 30 00:00:00", arguments{ref: reference, zone: zone}, api.ErrRange)
		checkError(t, "24:00:00", arguments{ref: reference, zone: zone}, api.ErrRange)
		checkError(t, "2026-02-29T00:00:00", arguments{ref: reference, zone: zone}, api.ErrDate)
		checkError(t, "2/29/2026 00:00:00", arguments{ref: reference, zone: zone}, api.ErrDate)
		checkRecover(t, "2026-01-01T00:00:00Z", arguments{ref: reference, zone: zone}, utc(2026, 1, 1, 0, 0, 0, 0), 20)
		checkRecover(t, "2026-01-01T00:00:00+01:00", arguments{ref: reference, zone: zone}, utc(2025, 12, 31, 23, 0, 0, 0), 25)
	}
	for _, c := range []struct{ ref, zone int }{
		{firstTime - 1, 0}, {api.MaxTime + 1, 0}, {math.MinInt, 0}, {math.MaxInt, 0}, {firstTime, -1}, {api.MaxTime, 1},
	} {
		a := arguments{ref: c.ref, zone: c.zone}
		for _, s := range []string{"Jan 1 00:00:00", "Feb 30 00:00:00", "12:00:00", "24:00:00"} {
			checkError(t, s, a, api.ErrRange)
		}
		for _, s := range []string{"2026-01-01T00:00:00", "1/1/2026 00:00:00"} {
			checkRecover(t, s, a, utc(2026, 1, 1, 0, 0, 0, 0)-c.zone*60000, len(s))
		}
	}
	for _, year := range []int{-1, 10000, math.MaxInt, math.MinInt, -2026} {
		checkError(t, "Jan 1 00:00:00", arguments{ref: reference, year: year}, api.ErrDate)
		checkError(t, "Jan 1 00:00:00", arguments{ref: math.MaxInt, year: year, zone: math.MaxInt}, api.ErrDate)
	}
	checkError(t, "Jan 1 00:00:00", arguments{ref: reference, year: 1, zone: 1}, api.ErrRange)
	checkError(t, "Dec 31 23:59:00", arguments{ref: reference, year: 9999, zone: -1}, api.ErrRange)
	checkError(t, "1/1/0001 00:00:00", arguments{ref: reference, zone: 1}, api.ErrRange)
}

// P6.5
func TestRecoverOfFormat(t *testing.T) {
	for zone := -maxZone; zone <= maxZone; zone++ {
		for _, ms := range []int{utc(1000, 1, 3, 0, 0, 0, 0), -1, 0, 1, reference + 999, api.MaxTime - maxZone*60000} {
			text, err := calendar.Format(ms, zone)
			if err != api.OK {
				t.Fatalf("Format(%d, %d): %d", ms, zone, err)
			}
			checkRecover(t, text, arguments{ref: math.MinInt, year: 1999, zone: math.MinInt, dayFirst: true}, ms, len(text))
		}
	}
}
