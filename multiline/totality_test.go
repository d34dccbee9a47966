package multiline_test

import (
	"math"
	"math/rand/v2"
	"slices"
	"testing"

	"logtide/api"
	"logtide/multiline"
)

// R1, R2: the functions return for all arguments, also for those for which the chapter promises nothing, and modify none.

func extreme(random *rand.Rand) int {
	return pick(random, math.MinInt, math.MinInt+1, -far, -1, 0, 1, 5, far, far+1, math.MaxInt-1, math.MaxInt)
}

func extremeLine(random *rand.Rand) api.Framed {
	return api.Framed{Offset: extreme(random), Length: extreme(random), Text: randomText(random), Damaged: extreme(random), TooLong: random.IntN(4) == 0}
}

// extremeOpen returns open lines that no function makes.
func extremeOpen(random *rand.Rand) []api.Line {
	var open []api.Line
	for range pick(random, 1, 2, 3, api.MaxLines, api.MaxLines+1, 3*api.MaxLines) {
		l := extremeLine(random)
		open = append(open, api.Line{Offset: l.Offset, Length: l.Length, Text: l.Text})
	}
	return roomy(open, api.Line{Text: "#"})
}

func TestFunctionsReturnForAllArguments(t *testing.T) {
	random := rand.New(rand.NewPCG(10, 7))
	for range 10000 {
		g := api.Assembly{Open: extremeOpen(random), Since: extreme(random)}
		start := randomStart(t, random)
		l := roomy([]api.Framed{extremeLine(random), extremeLine(random), extremeLine(random)}, api.Framed{Text: "#"})
		before := whole(l)
		wantUnmodified(t, g, start, func() {
			multiline.Add(g, start, l[0], extreme(random))
			multiline.Tick(g, extreme(random), extreme(random))
			multiline.Flush(g)
			if blocks := multiline.Assemble(start, l); len(blocks) < 1 || len(blocks) > len(l) {
				t.Fatalf("%d blocks of %d lines", len(blocks), len(l))
			}
		})
		if !slices.Equal(whole(l), before) {
			t.Fatalf("lines %+v became %+v", before, whole(l))
		}
	}
}
