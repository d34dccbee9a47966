package calendar_test

import (
	"math"
	"testing"

	"logtide/calendar"
)

// P5.1

func TestLeap(t *testing.T) {
	for year, want := range map[int]bool{
		1: false, 3: false, 4: true, 96: true, 100: false, 104: true, 200: false, 300: false, 400: true, 404: true,
		1900: false, 1970: false, 1972: true, 2000: true, 2004: true, 2024: true, 2025: false, 2026: false, 2100: false, 9996: true, 9999: false,
		0: true, -1: false, -4: true, -5: false, -100: false, -104: true, -400: true, 10000: true, 10100: false, 10004: true,
		math.MaxInt: false, math.MaxInt - 3: true, math.MaxInt - 7: false, math.MinInt: true, math.MinInt + 8: false, math.MinInt + 2: false,
	} {
		if calendar.Leap(year) != want {
			t.Errorf("Leap(%d) = %v", year, !want)
		}
	}
}

func TestLength(t *testing.T) {
	for month, want := range map[int]int{
		1: 31, 2: 28, 3: 31, 4: 30, 5: 31, 6: 30, 7: 31, 8: 31, 9: 30, 10: 31, 11: 30, 12: 31,
		0: 0, -1: 0, -2: 0, -12: 0, 13: 0, 14: 0, 15: 0, 24: 0, math.MaxInt: 0, math.MinInt: 0,
	} {
		for _, year := range []int{2026, 1900, 1, 9999, -1, math.MaxInt} {
			if got := calendar.Length(year, month); got != want {
				t.Errorf("Length(%d, %d) = %d, want %d", year, month, got, want)
			}
		}
		if month == 2 {
			want = 29
		}
		for _, year := range []int{2024, 2000, 4, 9996, 0, -4, 10000, math.MinInt} {
			if got := calendar.Length(year, month); got != want {
				t.Errorf("Length(%d, %d) = %d, want %d", year, month, got, want)
			}
		}
	}
}

func TestExamplesOfDays(t *testing.T) {
	for _, c := range []struct{ year, month, day, want int }{
		{1, 1, 1, -719162}, {1, 12, 31, -718798}, {2, 1, 1, -718797}, {1582, 10, 5, -141437}, {1582, 10, 15, -141427}, {1900, 2, 28, -25509}, {1900, 3, 1, -25508},
		{1969, 12, 31, -1}, {1970, 1, 1, 0}, {1970, 1, 31, 30}, {1970, 2, 1, 31}, {1970, 12, 31, 364}, {1971, 1, 1, 365}, {1972, 2, 29, 789}, {1972, 3, 1, 790}, {1972, 12, 31, 1095}, {1973, 1, 1, 1096},
		{2000, 2, 29, 11016}, {2000, 3, 1, 11017}, {2026, 11, 19, 20776}, {9999, 12, 31, 2932896},
	} {
		checkDay(t, c.year, c.month, c.day, c.want)
	}
}

// checkDay checks that a date has this number, and the number this date.
func checkDay(t *testing.T, year, month, day, number int) {
	t.Helper()
	if got, ok := calendar.Days(year, month, day); got != number || !ok {
		t.Fatalf("Days(%d, %d, %d) = %d, %v, want %d", year, month, day, got, ok, number)
	}
	if y, m, d, ok := calendar.Civil(number); y != year || m != month || d != day || !ok {
		t.Fatalf("Civil(%d) = %d, %d, %d, %v, want %d, %d, %d", number, y, m, d, ok, year, month, day)
	}
}

// P5.1 and P5.5
func TestAllDays(t *testing.T) {
	const monday = 0 // 0001-01-01
	number, weekday := -719162, monday
	for year := 1; year <= 9999; year++ {
		for month := 1; month <= 12; month++ {
			length := lengthByDefinition(year, month)
			if got := calendar.Length(year, month); got != length {
				t.Fatalf("Length(%d, %d) = %d, want %d", year, month, got, length)
			}
			for day := 1; day <= length; day++ {
				checkDay(t, year, month, day, number)
				if got := calendar.Weekday(number); got != weekday {
					t.Fatalf("Weekday(%d) = %d, want %d", number, got, weekday)
				}
				number++
				weekday = (weekday + 1) % 7
			}
		}
	}
	if number != 2932897 {
		t.Errorf("the day after all is %d", number)
	}
}

func TestDaysOfInvalidDates(t *testing.T) {
	for year := 1; year <= 9999; year++ {
		for month := 1; month <= 12; month++ {
			checkNoDay(t, year, month, 0)
			checkNoDay(t, year, month, lengthByDefinition(year, month)+1)
		}
	}
	for _, c := range [][3]int{
		{0, 1, 1}, {0, 12, 31}, {-1, 1, 1}, {-4, 2, 29}, {-2026, 1, 1}, {10000, 1, 1}, {10000, 2, 29}, {math.MaxInt, 1, 1}, {math.MinInt, 1, 1},
		{2026, 0, 1}, {2026, -1, 1}, {2026, 13, 1}, {2026, 14, 1}, {2026, math.MaxInt, 1}, {2026, math.MinInt, 1},
		{2026, 1, -1}, {2026, 1, 32}, {2026, 2, 30}, {2024, 2, 31}, {2026, 12, math.MaxInt}, {2026, 12, math.MinInt}, {2026, 0, 0}, {2026, 13, 0},
		{math.MinInt, math.MinInt, math.MinInt}, {math.MaxInt, math.MaxInt, math.MaxInt}, {0, 0, 0},
	} {
		checkNoDay(t, c[0], c[1], c[2])
	}
}

func checkNoDay(t *testing.T, year, month, day int) {
	t.Helper()
	if number, ok := calendar.Days(year, month, day); number != 0 || ok {
		t.Fatalf("Days(%d, %d, %d) = %d, %v, want 0, false", year, month, day, number, ok)
	}
}

func TestCivilBeyondTheYears(t *testing.T) {
	for _, days := range []int{-719163, -719164, -720000, -1 << 32, math.MinInt + 1, math.MinInt, 2932897, 2932898, 3000000, 1 << 32, math.MaxInt - 1, math.MaxInt} {
		if y, m, d, ok := calendar.Civil(days); y != 0 || m != 0 || d != 0 || ok {
			t.Errorf("Civil(%d) = %d, %d, %d, %v, want 0, 0, 0, false", days, y, m, d, ok)
		}
	}
}

func TestWeekday(t *testing.T) {
	// 2^63 is one more than a multiple of 7.
	for days, want := range map[int]int{
		-719162: 0, -8: 2, -7: 3, -6: 4, -5: 5, -4: 6, -3: 0, -2: 1, -1: 2, 0: 3, 1: 4, 2: 5, 3: 6, 4: 0, 5: 1, 6: 2, 7: 3, 20776: 3, 2932896: 4,
		-719163: 6, 2932897: 5, math.MaxInt: 3, math.MaxInt - 1: 2, math.MaxInt - 3: 0, math.MaxInt - 4: 6, math.MinInt: 2, math.MinInt + 1: 3, math.MinInt + 4: 6, math.MinInt + 5: 0,
	} {
		if got := calendar.Weekday(days); got != want {
			t.Errorf("Weekday(%d) = %d, want %d", days, got, want)
		}
	}
}

// P5.5
func TestConsecutiveDaysHaveConsecutiveWeekdays(t *testing.T) {
	for _, first := range []int{math.MinInt, -1000000000000, -3000000, -500, 2932000, 1000000000000, math.MaxInt - 1000} {
		for days := first; days < first+1000; days++ {
			today, tomorrow := calendar.Weekday(days), calendar.Weekday(days+1)
			if today < 0 || today > 6 || tomorrow != (today+1)%7 {
				t.Fatalf("Weekday(%d) = %d, and %d for the next day", days, today, tomorrow)
			}
		}
	}
}
