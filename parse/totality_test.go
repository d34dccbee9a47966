package parse_test

import (
	"math"
	"math/rand/v2"
	"slices"
	"testing"

	"logtide/api"
	"logtide/parse"
)

// R1: the functions return for all arguments, and R4: with an error nothing else.

func TestFunctionsReturnForAllArguments(t *testing.T) {
	random := rand.New(rand.NewPCG(11, 10))
	for range 20000 {
		b := make([]byte, random.IntN(40))
		for i := range b {
			b[i] = pick(random, byte(random.IntN(256)), '"', '\\', '{', '}', ':', ',', '=', ' ', 'a', '1')
		}
		s := string(b)
		source := api.Node{Op: random.IntN(10) - 1, Name: s, Kids: make([]api.Node, random.IntN(3)), Min: random.IntN(3), Max: pick(random, -1, 2, math.MaxInt)}
		for _, format := range []int{math.MinInt, -1, 0, 1, 2, 3, 4, 5, math.MaxInt} {
			if l, err := parse.Parse(format, source, s); err != api.OK && len(l) > 0 {
				t.Fatalf("Parse(%d, %q) = %q, %d", format, s, l, err)
			}
		}
		values, err := parse.Delimited(s, byte(random.IntN(256)))
		if err != api.OK && len(values) > 0 || err == api.OK && len(values) == 0 {
			t.Fatalf("Delimited(%q) = %q, %d", s, values, err)
		}
		l := []api.Field{{Name: s}, {Name: s, Value: s}}
		if sorted, err := parse.Sort(l[:random.IntN(3)]); err != api.OK && len(sorted) > 0 {
			t.Fatalf("Sort(%q) = %q, %d", l, sorted, err)
		}
		parse.Get(l, s)
	}
}

// The results of calls do not depend on earlier ones, nor on what was done with their results.
func TestCallsAreIndependent(t *testing.T) {
	source := node(t, `(b:\d) (a:.)`)
	for format, s := range []string{"", "b=1 a=2", "1,2", `{"b":{"c":1},"a":2}`, "1 2"} {
		first, _ := parse.Parse(format, source, s)
		want := slices.Clone(first)
		for i := range first[:cap(first)] {
			first[:cap(first)][i] = api.Field{Name: "#"}
		}
		parse.Parse(format, source, s+"x")
		if second, err := parse.Parse(format, source, s); !slices.Equal(second, want) || err != api.OK {
			t.Errorf("Parse(%d, %q) = %q, %d, want %q", format, s, second, err, want)
		}
	}
}
