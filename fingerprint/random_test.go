package fingerprint_test

import (
	"math"
	"math/rand/v2"
	"reflect"
	"slices"
	"testing"

	"logtide/api"
	"logtide/filesystem"
	"logtide/fingerprint"
)

// The tests of this file compare the functions with the promises for many arguments, and check that they modify none.

// pick returns one of the values.
func pick[T any](random *rand.Rand, values ...T) T { return values[random.IntN(len(values))] }

func randomData(random *rand.Rand, n int) []byte {
	data := make([]byte, n)
	for i := range data {
		data[i] = byte(random.IntN(256))
	}
	return data
}

func randomSize(random *rand.Rand) int {
	if random.IntN(10) == 0 {
		return pick(random, 0, -1, 65, 64, 63, math.MinInt, math.MaxInt)
	}
	return pick(random, 1, 2, 3, 4, 4, 4, 5, 6)
}

// randomContent returns a content that has its number in common with many others.
func randomContent(random *rand.Rand) []byte {
	data := []byte(pick(random, zeros, zeros, likeZero, none, "\x00\x00\x00\x01", "abcd"))
	for range random.IntN(4) {
		data = append(data, pick[byte](random, 'a', 'a', 'a', 255))
	}
	if random.IntN(4) == 0 {
		return data[:random.IntN(len(data)+1)]
	}
	return data
}

func TestRandomNumbers(t *testing.T) {
	random := rand.New(rand.NewPCG(8, 3))
	for range 20000 {
		data := roomy(randomData(random, random.IntN(100)), '#')
		before := whole(data)
		size := pick(random, randomSize(random), random.IntN(70), len(data), len(data)+1)
		want, wantOK := numberByDefinition(data, size)
		if got, ok := fingerprint.Number(data, size); got != want || ok != wantOK {
			t.Fatalf("Number(%q, %d) = %d, %v, want %d, %v", data, size, got, ok, want, wantOK)
		}
		if !slices.Equal(whole(data), before) {
			t.Fatalf("Number(%q, %d) modified its arguments", before, size)
		}
	}
}

// randomDirectory returns a value for which Check may not hold, in which no two files have the same inode.
func randomDirectory(random *rand.Rand) api.FileSystem {
	var f api.FileSystem
	inodes := []int{1, 2, 3, 4, 5, 6, 0, -1, math.MaxInt, math.MinInt}
	for _, at := range random.Perm(len(inodes))[:random.IntN(len(inodes))] {
		x := api.File{Inode: inodes[at], Data: roomy(randomContent(random), '#'), Copy: random.IntN(2) == 0, Whole: random.IntN(2) == 0}
		x.Left = pick(random, 0, 0, 1, 2, -1, random.IntN(len(x.Data)+1), math.MinInt, math.MaxInt)
		f.Files = append(f.Files, x)
	}
	for range random.IntN(8) {
		f.Names = append(f.Names, api.Name{Name: pick(random, "a", "ab", "abc", "b", "", "\xff", "log", "log.1"), Inode: pick(random, inodes...)})
	}
	for range random.IntN(4) {
		f.Open = append(f.Open, pick(random, append(inodes, 7)...))
	}
	f.Names, f.Files, f.Open = roomy(f.Names, api.Name{Name: "a", Inode: 5}), roomy(f.Files, api.File{Inode: 6, Data: []byte("spare"), Whole: true}), roomy(f.Open, 4)
	return f
}

// memoryOf returns a copy of all that a directory can reach.
func memoryOf(f api.FileSystem) api.FileSystem {
	m := api.FileSystem{Names: whole(f.Names), Files: whole(f.Files), Open: whole(f.Open)}
	for i, x := range m.Files {
		m.Files[i].Data = whole(x.Data)
	}
	return m
}

func checkScan(t *testing.T, f api.FileSystem, prefix string, size int) []api.Seen {
	t.Helper()
	want := scanByDefinition(f, prefix, size)
	before := memoryOf(f)
	got := fingerprint.Scan(f, prefix, size)
	if !slices.Equal(got, want) {
		t.Fatalf("Scan(%v, %q, %d) = %v, want %v", f, prefix, size, got, want)
	}
	if !reflect.DeepEqual(memoryOf(f), before) {
		t.Fatalf("Scan(%v, %q, %d) modified its arguments", f, prefix, size)
	}
	return got
}

func checkLongest(t *testing.T, l []api.Seen, file int) {
	t.Helper()
	l = roomy(l, api.Seen{File: file})
	before := whole(l)
	want, wantOK := longestByDefinition(l, file)
	if got, ok := fingerprint.Longest(l, file); got != want || ok != wantOK {
		t.Fatalf("Longest(%v, %d) = %v, %v, want %v, %v", l, file, got, ok, want, wantOK)
	}
	if !slices.Equal(whole(l), before) {
		t.Fatalf("Longest(%v, %d) modified its arguments", before, file)
	}
}

func TestRandomScans(t *testing.T) {
	random := rand.New(rand.NewPCG(8, 4))
	elements, equal := 0, 0
	for range 30000 {
		l := checkScan(t, randomDirectory(random), pick(random, "", "a", "ab", "abc", "b", "log", "log.", "\xff", "none"), randomSize(random))
		elements += len(l)
		for i := 1; i < len(l); i++ {
			if l[i].File == l[i-1].File {
				equal++
			}
		}
		for _, s := range l {
			checkLongest(t, l, s.File)
			checkLongest(t, l, s.File+pick(random, 1, -1))
		}
		random.Shuffle(len(l), func(i, j int) { l[i], l[j] = l[j], l[i] })
		for _, s := range l {
			checkLongest(t, l, s.File)
		}
	}
	if elements < 10000 || equal < 1000 {
		t.Errorf("only %d elements, %d of them with the number of another", elements, equal)
	}
}

func TestScansOfRandomScripts(t *testing.T) {
	random := rand.New(rand.NewPCG(8, 5))
	name := func() string { return pick(random, "a", "ab", "b", "log", "log.1", "log.2") }
	for range 500 {
		f := filesystem.New()
		for range 30 {
			f, _ = filesystem.Do(f, api.Change{Kind: 1 + random.IntN(8), Name: name(), To: name(), Data: randomContent(random), N: 1 + random.IntN(4)})
			if random.IntN(4) == 0 {
				f = filesystem.Hold(f, []int{1 + random.IntN(4), 1 + random.IntN(8)})
			}
			checkScan(t, f, pick(random, "", "a", "log", "log.", "x"), randomSize(random))
		}
	}
}

func TestRandomContents(t *testing.T) {
	random := rand.New(rand.NewPCG(8, 6))
	seen := map[bool]int{}
	for range 30000 {
		var files, before [][]byte
		for range random.IntN(6) {
			files = append(files, roomy(randomContent(random), '#'))
		}
		files = roomy(files, []byte("spare"))
		for _, data := range whole(files) {
			before = append(before, whole(data))
		}
		size := randomSize(random)
		want := consistentByDefinition(files, size)
		if got := fingerprint.Consistent(files, size); got != want {
			t.Fatalf("Consistent(%q, %d) = %v", files, size, got)
		}
		for i, data := range whole(files) {
			if !slices.Equal(whole(data), before[i]) {
				t.Fatalf("Consistent(%q, %d) modified its arguments", files, size)
			}
		}
		seen[want]++
	}
	if seen[true] < 5000 || seen[false] < 5000 {
		t.Errorf("contents are consistent, and not: %v", seen)
	}
}
