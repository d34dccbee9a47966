package timestamp_test

import (
	"math"
	"math/rand/v2"
	"strconv"
	"strings"
	"testing"
	"time"

	"logtide/api"
	"logtide/calendar"
	"logtide/timestamp"
)

// P6.1 to P6.4: the tests of this file compare the functions with the promises for many arguments.

// checkAgainstDefinition compares Recover with the promises, and returns the form that fits, and the error.
func checkAgainstDefinition(t *testing.T, s string, a arguments) (int, api.Errno) {
	t.Helper()
	want, wantUsed, wantErr, form := recoverByDefinition(s, a)
	got, used, err := timestamp.Recover(s, a.ref, a.year, a.zone, a.dayFirst)
	if got != want || used != wantUsed || err != wantErr {
		t.Fatalf("Recover(%q, %+v) = %d, %d, %d, want %d, %d, %d", s, a, got, used, err, want, wantUsed, wantErr)
	}
	return form, err
}

// examples has each form, with all of its optional parts and without them.
func examples() []string {
	return []string{
		"2026-11-20T03:04:05", "2026-11-20 03:04:05Z", "2026-11-20T03:04:05,6", "2026-11-20T03:04:05.678999999+01:00", "2026-11-20T03:04:05-0130",
		"Jan 2 03:04:05", "feb  2 03:04:05", "DEC 02 03:04:05.67", "Sep  30 03:04:05", "MaY  9 03:04:05 x",
		"1/2/2026 03:04:05", "12/13/26 03:04:05,6", "13/12/70 03:04:05", "1/12/0069 03:04:05", "11/1/69 03:04:05.123456789",
		"1767312000", "1767312000123", "1767312000 x", "1767312000123Z",
		"03:04:05", "23:59:59.9", "12:00:00,000", "00:00:00x",
	}
}

func TestAllChangesOfOneByte(t *testing.T) {
	a := arguments{ref: reference, zone: -90}
	for _, s := range examples() {
		for at := range len(s) + 1 {
			checkAgainstDefinition(t, s[:at], a)
			for b := range 256 {
				checkAgainstDefinition(t, s[:at]+string([]byte{byte(b)})+s[at:], a)
				if at < len(s) {
					checkAgainstDefinition(t, s[:at]+string([]byte{byte(b)})+s[at+1:], a)
				}
			}
			if at < len(s) {
				checkAgainstDefinition(t, s[:at]+s[at+1:], a)
			}
		}
	}
}

func TestRandomStrings(t *testing.T) {
	random := rand.New(rand.NewPCG(6, 1))
	type outcome struct {
		form int
		err  api.Errno
	}
	seen := map[outcome]int{}
	for range 200000 {
		form, err := checkAgainstDefinition(t, changed(random, randomText(random)), randomArguments(random))
		seen[outcome{form, err}]++
	}
	for _, o := range []outcome{
		{0, api.ErrNoMatch}, {1, api.OK}, {1, api.ErrDate}, {1, api.ErrRange}, {2, api.OK}, {2, api.ErrDate}, {2, api.ErrRange},
		{3, api.OK}, {3, api.ErrDate}, {3, api.ErrRange}, {4, api.OK}, {5, api.OK}, {5, api.ErrDate}, {5, api.ErrRange},
	} {
		if seen[o] < 1000 {
			t.Errorf("form %d with the error %d was tried %d times only", o.form, o.err, seen[o])
		}
	}
}

// pick returns one of the values.
func pick[T any](random *rand.Rand, values ...T) T { return values[random.IntN(len(values))] }

// digitsOf returns a random number from 0 to last, rarely a greater one, with leading zeros up to so many digits.
func digitsOf(random *rand.Rand, last, digits int) string {
	n := random.IntN(last + 1)
	if random.IntN(30) == 0 {
		n = last + 1 + random.IntN(3)
	}
	s := strconv.Itoa(n)
	return strings.Repeat("0", max(digits-len(s), 0)) + s
}

func randomDigits(random *rand.Rand, n int) string {
	digits := make([]byte, n)
	for i := range digits {
		digits[i] = byte('0' + random.IntN(10))
	}
	return string(digits)
}

func randomClock(random *rand.Rand) string {
	s := digitsOf(random, 23, 2) + ":" + digitsOf(random, 59, 2) + ":" + digitsOf(random, 59, 2)
	if random.IntN(2) == 0 {
		s += pick(random, ".", ",") + randomDigits(random, random.IntN(12))
	}
	return s
}

// randomText returns a text that mostly has one of the forms.
func randomText(random *rand.Rand) string {
	clock := randomClock(random)
	year := pick(random, digitsOf(random, 9999, 4), digitsOf(random, 9999, 4), "0001", "9999", "2024", "2026", "0000")
	switch random.IntN(5) {
	case 0:
		zone := pick(random, "", "Z", "+", "-", digitsOf(random, 9, 1))
		if random.IntN(2) == 0 {
			zone = pick(random, "+", "-") + digitsOf(random, 24, 2) + pick(random, ":", "") + digitsOf(random, 60, 2)
		}
		return year + "-" + digitsOf(random, 12, 2) + "-" + digitsOf(random, 31, 2) + pick(random, "T", " ") + clock + zone
	case 1:
		name := monthOrder[random.IntN(12)]
		return pick(random, name, strings.ToUpper(name), strings.ToUpper(name[:1])+name[1:]) + pick(random, " ", "  ") + digitsOf(random, 31, random.IntN(3)) + " " + clock
	case 2:
		short := pick(random, year, digitsOf(random, 99, 2))
		return digitsOf(random, pick(random, 12, 31), random.IntN(3)) + "/" + digitsOf(random, pick(random, 12, 31), random.IntN(3)) + "/" + short + " " + clock
	case 3:
		return randomDigits(random, pick(random, 10, 10, 13, 13, random.IntN(20)))
	}
	return clock
}

// changed returns a text with a few changes, or none.
func changed(random *rand.Rand, s string) string {
	const bytes = "0123456789-/:., TZtz+janDEC\t\n\x00\xff"
	for range max(random.IntN(6)-3, 0) {
		from := random.IntN(len(s) + 1)
		to := min(from+random.IntN(3), len(s))
		at := random.IntN(len(bytes) + 1)
		s = s[:from] + bytes[at:min(at+random.IntN(2), len(bytes))] + s[to:]
	}
	return s
}

func randomArguments(random *rand.Rand) arguments {
	return arguments{ref: randomTime(random), year: pick(random, 0, 0, 0, 1, 2024, 2026, 9999, 10000, -1, random.IntN(10001)), zone: randomZone(random), dayFirst: random.IntN(2) == 0}
}

// randomTime returns a time, which is often near a limit, or beyond it.
func randomTime(random *rand.Rand) int {
	near := random.IntN(4*dayMillis) - 2*dayMillis
	anywhere := firstTime + random.IntN(api.MaxTime-firstTime+1)
	return pick(random, anywhere, anywhere, anywhere, reference+near, utc(2024, 7, 2, 0, 0, 0, 0)+near, firstTime+near, api.MaxTime+near, anywhere/dayMillis*dayMillis, pick(random, math.MinInt, math.MaxInt, firstTime-1, api.MaxTime+1))
}

// randomZone returns a zone, which is rarely beyond the limit.
func randomZone(random *rand.Rand) int {
	anywhere := random.IntN(2*maxZone+1) - maxZone
	return pick(random, 0, 0, 0, 60, -60, maxZone, -maxZone, anywhere, anywhere, anywhere, pick(random, maxZone+1, -maxZone-1, math.MinInt, math.MaxInt, 1<<59))
}

func TestRandomNearest(t *testing.T) {
	random := rand.New(rand.NewPCG(6, 2))
	part := func(last int) int {
		if random.IntN(50) == 0 {
			return pick(random, -1, last+1, math.MinInt, math.MaxInt)
		}
		return random.IntN(last + 1)
	}
	for range 200000 {
		d := api.Date{Year: part(9999), Month: 1 + part(11), Day: 1 + part(30), Hour: part(23), Minute: part(59), Second: part(59), Millisecond: part(999)}
		if random.IntN(8) == 0 {
			d.Month, d.Day = 2, 29
		}
		ref, zone := randomTime(random), randomZone(random)
		want, wantErr := nearestByDefinition(d, ref, zone)
		if got, err := timestamp.Nearest(d, ref, zone); got != want || err != wantErr {
			t.Fatalf("Nearest(%v, %d, %d) = %d, %d, want %d, %d", d, ref, zone, got, err, want, wantErr)
		}
	}
}

// P6.5

func TestRecoverOfRandomFormats(t *testing.T) {
	random := rand.New(rand.NewPCG(6, 3))
	first := utc(1000, 1, 1, 0, 0, 0, 0)
	for range 100000 {
		ms := first + random.IntN(api.MaxTime-first+1)
		zone := pick(random, 0, random.IntN(2*maxZone+1)-maxZone)
		text, err := calendar.Format(ms, zone)
		if err != api.OK || text[:4] < "1000" {
			continue
		}
		checkRecover(t, text, randomArguments(random), ms, len(text))
	}
}

func TestTimesWithoutYearNearTheReference(t *testing.T) {
	const reach = 180 * dayMillis
	random := rand.New(rand.NewPCG(6, 4))
	for range 100000 {
		ref := firstTime + random.IntN(api.MaxTime-firstTime+1)
		ms := ref + pick(random, -reach, reach, random.IntN(2*reach+1)-reach)
		zone := pick(random, 0, random.IntN(2*maxZone+1)-maxZone)
		_, refErr := calendar.Dates(ref, zone)
		_, err := calendar.Dates(ms, zone)
		if refErr != api.OK || err != api.OK {
			continue
		}
		text := time.UnixMilli(int64(ms)).In(location(zone)).Format(pick(random, "Jan _2 15:04:05.000", "Jan 2 15:04:05,000", "Jan 02 15:04:05.000"))
		checkRecover(t, text, arguments{ref: ref, zone: zone}, ms, len(text))
	}
}

// P6.2
func TestTimesOfDayNearTheReference(t *testing.T) {
	random := rand.New(rand.NewPCG(6, 5))
	for range 100000 {
		ref := firstTime + dayMillis + random.IntN(api.MaxTime-firstTime-2*dayMillis)
		ms := ref + pick(random, 1-dayMillis/2, 0, random.IntN(dayMillis)-dayMillis/2)
		zone := pick(random, 0, random.IntN(2*maxZone+1)-maxZone)
		_, refErr := calendar.Dates(ref, zone)
		_, err := calendar.Dates(ms, zone)
		if refErr != api.OK || err != api.OK {
			continue
		}
		text := time.UnixMilli(int64(ms)).In(location(zone)).Format("15:04:05.000")
		checkRecover(t, text, arguments{ref: ref, zone: zone}, ms, len(text))
	}
}
