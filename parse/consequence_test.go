package parse_test

import (
	"math/rand/v2"
	"slices"
	"strings"
	"testing"

	"logtide/api"
	"logtide/parse"
)

// P11.6

func TestFieldsThatAreSortedAgain(t *testing.T) {
	random := rand.New(rand.NewPCG(11, 8))
	for range 5000 {
		l, err := parse.Sort(randomFields(random))
		if err != api.OK {
			continue
		}
		if again, err := parse.Sort(l); !slices.Equal(again, l) || err != api.OK {
			t.Errorf("Sort(%q) = %q, %d", l, again, err)
		}
		for _, f := range l {
			if value, found := parse.Get(l, f.Name); value != f.Value || !found {
				t.Errorf("Get(%q, %q) = %q, %v", l, f.Name, value, found)
			}
		}
	}
}

func TestFieldsThatAreQuotedAndJoined(t *testing.T) {
	random := rand.New(rand.NewPCG(11, 9))
	for range 5000 {
		sep := byte(random.IntN(256))
		if strings.IndexByte("\"\n\r", sep) >= 0 {
			continue
		}
		var values, parts []string
		for range 1 + random.IntN(api.MaxFields) {
			value := randomValue(random)
			values = append(values, value)
			parts = append(parts, quoted(value))
		}
		wantDelimited(t, strings.Join(parts, string([]byte{sep})), sep, values...)
	}
}
