package timestamp_test

import (
	"math"
	"strings"
	"testing"

	"logtide/api"
	"logtide/timestamp"
)

// P6.3

func TestMonth(t *testing.T) {
	for i, name := range monthOrder {
		for letters := range 8 {
			mixed := []byte(name)
			for j := range mixed {
				if letters>>j&1 == 1 {
					mixed[j] -= 'a' - 'A'
				}
			}
			if got := timestamp.Month(string(mixed)); got != i+1 {
				t.Errorf("Month(%q) = %d, want %d", mixed, got, i+1)
			}
		}
		for _, s := range []string{name[:2], name[1:], name + " ", " " + name, name + "u", name + name, name[:2] + "\x00", name[:2] + string(name[2]^0x40), name[:2] + string(name[2]|0x80)} {
			checkNoMonth(t, s)
		}
	}
	for _, s := range []string{"", "1", "01", "xxx", "anf", "january", "\u017fep", "\xe2\x84\xaa", "jan\n", strings.Repeat("jan", 10000)} {
		checkNoMonth(t, s)
	}
}

func checkNoMonth(t *testing.T, s string) {
	t.Helper()
	if got := timestamp.Month(s); got != 0 {
		t.Errorf("Month(%.20q) = %d, want 0", s, got)
	}
}

func TestAllMonthsOfThreeLetters(t *testing.T) {
	for a := range 128 {
		for b := range 128 {
			for c := range 128 {
				s := string([]byte{byte(a), byte(b), byte(c)})
				if got := timestamp.Month(s); got != 0 && got != monthByDefinition(s) {
					t.Fatalf("Month(%q) = %d", s, got)
				}
			}
		}
	}
}

// day returns the beginning of a day.
func day(year, month, number int) api.Date {
	return api.Date{Year: year, Month: month, Day: number}
}

func TestNearest(t *testing.T) {
	start := func(year, month, day int) int { return utc(year, month, day, 0, 0, 0, 0) }
	for _, c := range []struct {
		d         api.Date
		ref, zone int
		want      int
	}{
		{day(0, 12, 31), start(2026, 1, 2), 0, start(2025, 12, 31)},
		{day(0, 1, 1), start(2025, 12, 31), 0, start(2026, 1, 1)},
		{day(0, 6, 15), start(2026, 6, 15), 0, start(2026, 6, 15)},
		{day(0, 1, 5), start(2026, 7, 1), 0, start(2026, 1, 5)},
		{day(0, 1, 5), start(2026, 7, 20), 0, start(2027, 1, 5)},
		// The year of the date does not count.
		{day(1999, 1, 5), start(2026, 7, 1), 0, start(2026, 1, 5)},
		{day(-1, 1, 5), start(2026, 7, 1), 0, start(2026, 1, 5)},
		{day(10000, 1, 5), start(2026, 7, 1), 0, start(2026, 1, 5)},
		{day(math.MaxInt, 1, 5), start(2026, 7, 1), 0, start(2026, 1, 5)},
		// 365 days lie between the two first dates, 366 between the two others, which may be equally near.
		{day(0, 1, 1), start(2026, 7, 2) + dayMillis/2, 0, start(2026, 1, 1)},
		{day(0, 1, 1), start(2026, 7, 2) + dayMillis/2 + 1, 0, start(2027, 1, 1)},
		{day(0, 1, 1), start(2024, 7, 2), 0, start(2024, 1, 1)},
		{day(0, 1, 1), start(2024, 7, 2) + 1, 0, start(2025, 1, 1)},
		// Days that not all years have.
		{day(0, 2, 29), start(2025, 6, 1), 0, start(2024, 2, 29)},
		{day(0, 2, 29), start(2027, 1, 1), 0, start(2028, 2, 29)},
		{day(0, 2, 29), start(2024, 12, 31), 0, start(2024, 2, 29)},
		{day(0, 2, 29), start(2023, 1, 1), 0, start(2024, 2, 29)},
		// The local years of the reference are 2025 and 2026.
		{day(0, 2, 29), start(2026, 1, 1), -1, start(2024, 2, 29) + 60000},
		{day(0, 2, 29), start(2026, 12, 31) + dayMillis - 60000, 1, start(2028, 2, 29) - 60000},
		{day(0, 1, 1), start(2025, 12, 31) + dayMillis - 60000, 1, start(2025, 12, 31) + dayMillis - 60000},
		{day(0, 12, 31), start(2026, 1, 1), -maxZone, start(2026, 1, 1)},
		// Years that the calendar lacks.
		{day(0, 12, 31), firstTime, 0, start(1, 12, 31)},
		{day(0, 1, 1), api.MaxTime, 0, start(9999, 1, 1)},
		{day(0, 1, 1), firstTime, 0, firstTime},
		{day(0, 1, 1), firstTime, 1, start(2, 1, 1) - 60000},
		{api.Date{Month: 12, Day: 31, Hour: 23, Minute: 59}, api.MaxTime, -1, start(9999, 1, 1)},
		{api.Date{Month: 12, Day: 31, Hour: 23, Minute: 59, Second: 59, Millisecond: 999}, api.MaxTime, 0, api.MaxTime},
	} {
		if got, err := timestamp.Nearest(c.d, c.ref, c.zone); got != c.want || err != api.OK {
			t.Errorf("Nearest(%v, %d, %d) = %d, %d, want %d", c.d, c.ref, c.zone, got, err, c.want)
		}
	}
}

func TestErrorsOfNearest(t *testing.T) {
	for _, c := range []struct {
		d         api.Date
		ref, zone int
		want      api.Errno
	}{
		{api.Date{}, reference, 0, api.ErrDate},
		{day(2026, 0, 1), reference, 0, api.ErrDate},
		{day(2026, 13, 1), reference, 0, api.ErrDate},
		{day(2026, 1, 0), reference, 0, api.ErrDate},
		{day(2026, 2, 30), reference, 0, api.ErrDate},
		{day(2026, math.MinInt, math.MaxInt), reference, 0, api.ErrDate},
		{api.Date{Month: 1, Day: 1, Hour: 24}, reference, 0, api.ErrDate},
		{api.Date{Month: 1, Day: 1, Minute: 60}, reference, 0, api.ErrDate},
		{api.Date{Month: 1, Day: 1, Second: -1}, reference, 0, api.ErrDate},
		{api.Date{Month: 1, Day: 1, Millisecond: 1000}, reference, 0, api.ErrDate},
		// No year around these has the day.
		{day(2024, 2, 29), reference, 0, api.ErrDate},
		{day(2024, 2, 29), utc(2026, 12, 31, 23, 59, 0, 0), 0, api.ErrDate},
		{day(2024, 2, 29), utc(2025, 12, 31, 23, 59, 0, 0), 1, api.ErrDate},
		{day(2024, 2, 29), utc(2027, 1, 1, 0, 0, 0, 0), -1, api.ErrDate},
		{day(2000, 2, 29), utc(1900, 2, 28, 0, 0, 0, 0), 0, api.ErrDate},
		{day(4, 2, 29), firstTime, 0, api.ErrDate},
		{day(9996, 2, 29), api.MaxTime, 0, api.ErrDate},
		{day(2026, 1, 1), firstTime - 1, 0, api.ErrRange},
		{day(2026, 1, 1), api.MaxTime + 1, 0, api.ErrRange},
		{day(2026, 1, 1), math.MinInt, 0, api.ErrRange},
		{day(2026, 1, 1), math.MaxInt, 0, api.ErrRange},
		{day(2026, 1, 1), firstTime, -1, api.ErrRange},
		{day(2026, 1, 1), api.MaxTime, 1, api.ErrRange},
		{day(2026, 1, 1), reference, maxZone + 1, api.ErrRange},
		{day(2026, 1, 1), reference, -maxZone - 1, api.ErrRange},
		{day(2026, 1, 1), reference, math.MinInt, api.ErrRange},
		// The error of the reference is the first one.
		{day(2026, 2, 30), math.MaxInt, 0, api.ErrRange},
		{api.Date{}, reference, math.MaxInt, api.ErrRange},
	} {
		if got, err := timestamp.Nearest(c.d, c.ref, c.zone); got != 0 || err != c.want {
			t.Errorf("Nearest(%v, %d, %d) = %d, %d, want 0, %d", c.d, c.ref, c.zone, got, err, c.want)
		}
	}
}
