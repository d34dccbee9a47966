package calendar_test

import (
	"math"
	"math/rand/v2"
	"testing"

	"logtide/api"
	"logtide/calendar"
)

// P5.2

func TestCheckOfTheLimitsOfEachPart(t *testing.T) {
	for _, c := range []struct {
		part        func(*api.Date) *int
		first, last int
	}{
		{func(d *api.Date) *int { return &d.Year }, 1, 9999},
		{func(d *api.Date) *int { return &d.Month }, 1, 12},
		{func(d *api.Date) *int { return &d.Day }, 1, 31},
		{func(d *api.Date) *int { return &d.Hour }, 0, 23},
		{func(d *api.Date) *int { return &d.Minute }, 0, 59},
		{func(d *api.Date) *int { return &d.Second }, 0, 59},
		{func(d *api.Date) *int { return &d.Millisecond }, 0, 999},
	} {
		d := api.Date{Year: 2026, Month: 12, Day: 1, Hour: 2, Minute: 3, Second: 4, Millisecond: 5}
		for _, value := range []int{c.first, c.first + 1, c.last - 1, c.last} {
			*c.part(&d) = value
			checkCheck(t, d, api.OK)
		}
		for _, value := range []int{c.first - 1, c.last + 1, -c.last, math.MinInt, math.MaxInt} {
			*c.part(&d) = value
			checkCheck(t, d, api.ErrDate)
		}
	}
	checkCheck(t, api.Date{}, api.ErrDate)
}

func TestCheckOfDays(t *testing.T) {
	for year, lastOfFebruary := range map[int]int{1: 28, 4: 29, 1900: 28, 2000: 29, 2024: 29, 2026: 28, 2100: 28, 9996: 29, 9999: 28} {
		for month, last := range []int{31, lastOfFebruary, 31, 30, 31, 30, 31, 31, 30, 31, 30, 31} {
			checkCheck(t, api.Date{Year: year, Month: month + 1, Day: last}, api.OK)
			checkCheck(t, api.Date{Year: year, Month: month + 1, Day: last + 1}, api.ErrDate)
		}
	}
}

func checkCheck(t *testing.T, d api.Date, want api.Errno) {
	t.Helper()
	if got := calendar.Check(d); got != want {
		t.Errorf("Check(%v) = %d, want %d", d, got, want)
	}
}

// P5.3

// at returns a date and a time of day.
func at(year, month, day, hour, minute, second, millisecond int) api.Date {
	return api.Date{Year: year, Month: month, Day: day, Hour: hour, Minute: minute, Second: second, Millisecond: millisecond}
}

func TestMillisAndDates(t *testing.T) {
	for _, c := range []struct {
		d        api.Date
		zone, ms int
	}{
		{at(1970, 1, 1, 0, 0, 0, 0), 0, 0},
		{at(1970, 1, 1, 0, 0, 0, 1), 0, 1},
		{at(1970, 1, 1, 0, 0, 1, 0), 0, 1000},
		{at(1970, 1, 1, 0, 1, 0, 0), 0, 60000},
		{at(1970, 1, 1, 1, 0, 0, 0), 0, 3600000},
		{at(1970, 1, 2, 0, 0, 0, 0), 0, 86400000},
		{at(1969, 12, 31, 23, 59, 59, 999), 0, -1},
		{at(1969, 12, 31, 0, 0, 0, 0), 0, -86400000},
		{at(1970, 1, 1, 1, 0, 0, 0), 60, 0},
		{at(1969, 12, 31, 23, 0, 0, 0), -60, 0},
		{at(1970, 1, 1, 5, 45, 0, 0), 345, 0},
		{at(1970, 1, 2, 0, 0, 0, 0), 1440, 0},
		{at(1969, 12, 31, 0, 0, 0, 0), -1440, 0},
		{at(2000, 3, 1, 0, 0, 0, 0), 0, 951868800000},
		{at(2000, 3, 1, 0, 0, 0, 0), 1, 951868740000},
		{at(2000, 2, 29, 23, 59, 59, 999), 0, 951868799999},
		{at(2026, 11, 19, 21, 43, 7, 89), -570, 1795158787089},
		{at(1, 1, 1, 0, 0, 0, 0), 0, firstTime},
		{at(1, 1, 2, 0, 0, 0, 0), 1440, firstTime},
		{at(1, 1, 1, 0, 0, 0, 0), -1440, firstTime + 86400000},
		{at(9999, 12, 31, 23, 59, 59, 999), 0, api.MaxTime},
		{at(9999, 12, 30, 23, 59, 59, 999), -1440, api.MaxTime},
		{at(9999, 12, 31, 23, 59, 59, 999), 1440, api.MaxTime - 86400000},
	} {
		if got, err := calendar.Millis(c.d, c.zone); got != c.ms || err != api.OK {
			t.Errorf("Millis(%v, %d) = %d, %d, want %d", c.d, c.zone, got, err, c.ms)
		}
		if got, err := calendar.Dates(c.ms, c.zone); got != c.d || err != api.OK {
			t.Errorf("Dates(%d, %d) = %v, %d, want %v", c.ms, c.zone, got, err, c.d)
		}
	}
}

func TestErrorsOfMillis(t *testing.T) {
	valid := at(2026, 11, 19, 0, 0, 0, 0)
	for _, c := range []struct {
		d    api.Date
		zone int
		want api.Errno
	}{
		{valid, 1441, api.ErrRange}, {valid, -1441, api.ErrRange}, {valid, math.MaxInt, api.ErrRange}, {valid, math.MinInt, api.ErrRange},
		// Their products with the milliseconds of a minute wrap around to small numbers.
		{valid, 1 << 59, api.ErrRange}, {valid, -1 << 59, api.ErrRange},
		{at(1, 1, 1, 0, 0, 0, 0), 1, api.ErrRange}, {at(1, 1, 1, 0, 59, 59, 999), 60, api.ErrRange}, {at(1, 1, 1, 23, 59, 59, 999), 1440, api.ErrRange},
		{at(9999, 12, 31, 23, 59, 0, 0), -1, api.ErrRange}, {at(9999, 12, 31, 23, 0, 0, 0), -60, api.ErrRange}, {at(9999, 12, 31, 0, 0, 0, 0), -1440, api.ErrRange},
		// The error of Check is the first one.
		{at(2026, 2, 29, 0, 0, 0, 0), 0, api.ErrDate}, {at(2026, 2, 29, 0, 0, 0, 0), 1441, api.ErrDate}, {at(2026, 11, 19, 24, 0, 0, 0), -1441, api.ErrDate}, {at(0, 12, 31, 0, 0, 0, 0), -1440, api.ErrDate}, {at(10000, 1, 1, 0, 0, 0, 0), 1440, api.ErrDate},
		{api.Date{}, 0, api.ErrDate}, {at(math.MaxInt, 1, 1, 0, 0, 0, 0), math.MaxInt, api.ErrDate}, {at(2026, 1, 1, 0, 0, 0, math.MinInt), 0, api.ErrDate},
	} {
		if got, err := calendar.Millis(c.d, c.zone); got != 0 || err != c.want {
			t.Errorf("Millis(%v, %d) = %d, %d, want 0, %d", c.d, c.zone, got, err, c.want)
		}
	}
}

// P5.3 and P5.4
func TestErrorsOfDatesAndFormat(t *testing.T) {
	for _, c := range []struct{ ms, zone int }{
		{firstTime - 1, 0}, {firstTime - 1, 1}, {firstTime - 1, 1440}, {math.MinInt, 0}, {math.MinInt, -1440},
		{api.MaxTime + 1, 0}, {api.MaxTime + 1, -1}, {api.MaxTime + 1, -1440}, {math.MaxInt, 0}, {math.MaxInt, 1440},
		{0, 1441}, {0, -1441}, {0, math.MaxInt}, {0, math.MinInt}, {0, 1 << 59}, {0, -1 << 59},
		{firstTime, -1}, {firstTime + 59999, -1}, {firstTime, -1440}, {firstTime + 86399999, -1440},
		{api.MaxTime, 1}, {api.MaxTime - 59999, 1}, {api.MaxTime, 1440}, {api.MaxTime - 86399999, 1440},
		{math.MaxInt, math.MaxInt}, {math.MinInt, math.MinInt},
	} {
		if d, err := calendar.Dates(c.ms, c.zone); d != (api.Date{}) || err != api.ErrRange {
			t.Errorf("Dates(%d, %d) = %v, %d, want ErrRange", c.ms, c.zone, d, err)
		}
		if s, err := calendar.Format(c.ms, c.zone); s != "" || err != api.ErrRange {
			t.Errorf("Format(%d, %d) = %q, %d, want ErrRange", c.ms, c.zone, s, err)
		}
	}
}

// P5.4

func TestFormat(t *testing.T) {
	for _, c := range []struct {
		ms, zone int
		want     string
	}{
		{0, 0, "1970-01-01T00:00:00.000Z"},
		{0, 60, "1970-01-01T01:00:00.000+01:00"},
		{0, -60, "1969-12-31T23:00:00.000-01:00"},
		{0, 1, "1970-01-01T00:01:00.000+00:01"},
		{0, -1, "1969-12-31T23:59:00.000-00:01"},
		{0, 345, "1970-01-01T05:45:00.000+05:45"},
		{0, -630, "1969-12-31T13:30:00.000-10:30"},
		{0, 1439, "1970-01-01T23:59:00.000+23:59"},
		{0, 1440, "1970-01-02T00:00:00.000+24:00"},
		{0, -1440, "1969-12-31T00:00:00.000-24:00"},
		{1, 0, "1970-01-01T00:00:00.001Z"},
		{-1, 0, "1969-12-31T23:59:59.999Z"},
		{10, 0, "1970-01-01T00:00:00.010Z"},
		{1795158787089, -570, "2026-11-19T21:43:07.089-09:30"},
		{firstTime, 0, "0001-01-01T00:00:00.000Z"},
		{-61979904000000, 0, "0005-12-08T00:00:00.000Z"},
		{-58979923200000, 0, "0101-01-01T00:00:00.000Z"},
		{api.MaxTime, 0, "9999-12-31T23:59:59.999Z"},
		{api.MaxTime, -1440, "9999-12-30T23:59:59.999-24:00"},
	} {
		if got, err := calendar.Format(c.ms, c.zone); got != c.want || err != api.OK {
			t.Errorf("Format(%d, %d) = %q, %d, want %q", c.ms, c.zone, got, err, c.want)
		}
	}
}

// P5.2 to P5.5

func TestAllZonesAtTheLimits(t *testing.T) {
	for zone := -maxZone - 2; zone <= maxZone+2; zone++ {
		for _, ms := range []int{0, firstTime, api.MaxTime, firstTime + zone*60000, firstTime - zone*60000, api.MaxTime + zone*60000, api.MaxTime - zone*60000} {
			for _, near := range []int{ms - 60000, ms - 1, ms, ms + 1, ms + 60000} {
				checkTime(t, near, zone)
			}
		}
		for _, d := range []api.Date{at(1, 1, 1, 0, 0, 0, 0), at(9999, 12, 31, 23, 59, 59, 999), at(1, 1, 1, 12, 0, 0, 0), at(9999, 12, 31, 12, 0, 0, 0), at(2024, 2, 29, 12, 0, 0, 0), at(2026, 2, 29, 12, 0, 0, 0)} {
			checkDate(t, d, zone)
		}
	}
}

func TestRandomTimes(t *testing.T) {
	random := rand.New(rand.NewPCG(5, 1))
	for range 300000 {
		ms := firstTime + random.IntN(api.MaxTime-firstTime+1)
		checkTime(t, ms, random.IntN(2*maxZone+1)-maxZone)
		checkTime(t, ms, 0)
	}
}

func TestRandomDates(t *testing.T) {
	random := rand.New(rand.NewPCG(5, 2))
	for range 300000 {
		d := at(1+random.IntN(9999), 1+random.IntN(12), 1+random.IntN(31), random.IntN(24), random.IntN(60), random.IntN(60), random.IntN(1000))
		checkDate(t, d, random.IntN(2*maxZone+1)-maxZone)
	}
}

func TestExtremeArguments(t *testing.T) {
	random := rand.New(rand.NewPCG(5, 3))
	values := []int{math.MinInt, math.MinInt + 1, -1 << 59, firstTime - 1, firstTime, -719163, -719162, -1441, -1440, -1, 0, 1, 2, 11, 12, 13, 23, 24, 28, 29, 30, 31, 32, 59, 60, 999, 1000, 1440, 1441, 2024, 9999, 10000, 2932896, 2932897, api.MaxTime, api.MaxTime + 1, 1 << 59, math.MaxInt - 1, math.MaxInt}
	value := func() int { return values[random.IntN(len(values))] }
	for range 300000 {
		d := at(2024, 12, 1, 23, 59, 59, 999)
		for _, part := range []*int{&d.Year, &d.Month, &d.Day, &d.Hour, &d.Minute, &d.Second, &d.Millisecond} {
			if random.IntN(4) == 0 {
				*part = value()
			}
		}
		checkDate(t, d, value())
		checkTime(t, value(), value())
	}
	for _, days := range values {
		if got, want := calendar.Weekday(days), weekdayByDefinition(days); got != want {
			t.Errorf("Weekday(%d) = %d, want %d", days, got, want)
		}
	}
}

// checkDate compares Check and Millis of a date with the promises.
func checkDate(t *testing.T, d api.Date, zone int) {
	t.Helper()
	if got, want := calendar.Check(d), checkByDefinition(d); got != want {
		t.Fatalf("Check(%v) = %d, want %d", d, got, want)
	}
	want, wantErr := millisByDefinition(d, zone)
	got, err := calendar.Millis(d, zone)
	if got != want || err != wantErr {
		t.Fatalf("Millis(%v, %d) = %d, %d, want %d, %d", d, zone, got, err, want, wantErr)
	}
	if err != api.OK {
		return
	}
	if again, err := calendar.Dates(got, zone); again != d || err != api.OK {
		t.Fatalf("Dates(Millis(%v, %d)) = %v, %d", d, zone, again, err)
	}
}

// checkTime compares Dates and Format of a time with the promises.
func checkTime(t *testing.T, ms, zone int) {
	t.Helper()
	want, wantErr := datesByDefinition(ms, zone)
	got, err := calendar.Dates(ms, zone)
	if got != want || err != wantErr {
		t.Fatalf("Dates(%d, %d) = %v, %d, want %v, %d", ms, zone, got, err, want, wantErr)
	}
	wantText, wantErr := formatByDefinition(ms, zone)
	text, err := calendar.Format(ms, zone)
	if text != wantText || err != wantErr {
		t.Fatalf("Format(%d, %d) = %q, %d, want %q, %d", ms, zone, text, err, wantText, wantErr)
	}
	if err != api.OK {
		return
	}
	if again, err := calendar.Millis(got, zone); again != ms || err != api.OK {
		t.Fatalf("Millis(Dates(%d, %d)) = %d, %d", ms, zone, again, err)
	}
}
