package framing_test

import (
	"bytes"
	"math"
	"math/rand/v2"
	"slices"
	"testing"

	"logtide/framing"
)

// The tests of this file compare the functions with the promises for many arguments, and check that they modify none.

func TestRandomTexts(t *testing.T) {
	random := rand.New(rand.NewPCG(9, 1))
	for range 50000 {
		data := roomy(randomData(random, 8))
		before := whole(data)
		text, damaged := framing.Text(data)
		if want, wantDamaged := textByDefinition(data); text != want || damaged != wantDamaged {
			t.Fatalf("Text(%q) = %q, %d, want %q, %d", data, text, damaged, want, wantDamaged)
		}
		if !bytes.Equal(whole(data), before) {
			t.Fatalf("Text(%q) modified its argument", before)
		}
	}
}

func TestRandomFrames(t *testing.T) {
	random := rand.New(rand.NewPCG(9, 2))
	lines, tooLong, damaged := 0, 0, 0
	for range 50000 {
		data := roomy(randomData(random, 30))
		before := whole(data)
		offset := pick(random, 0, random.IntN(len(data)+1), random.IntN(len(data)+1), len(data), -1, len(data)+1+random.IntN(4), math.MinInt, math.MaxInt)
		limit := pick(random, plenty, plenty, plenty, random.IntN(8), random.IntN(20), random.IntN(20), 0, -1, math.MinInt, math.MaxInt)
		l, end := framing.Frame(data, offset, limit)
		if want, wantEnd := frameByDefinition(data, offset, limit); !slices.Equal(l, want) || end != wantEnd {
			t.Fatalf("Frame(%q, %d, %d) = %+v, %d, want %+v, %d", data, offset, limit, l, end, want, wantEnd)
		}
		if !bytes.Equal(whole(data), before) {
			t.Fatalf("Frame(%q, %d, %d) modified its argument", before, offset, limit)
		}
		for _, x := range l {
			lines++
			if x.TooLong {
				tooLong++
			}
			if x.Damaged > 0 {
				damaged++
			}
		}
	}
	if lines < 40000 || tooLong < 10000 || damaged < 10000 {
		t.Errorf("only %d lines, %d of them too long, %d damaged", lines, tooLong, damaged)
	}
}
