package filesystem_test

import (
	"bytes"
	"math"
	"math/rand/v2"
	"reflect"
	"slices"
	"strings"
	"testing"

	"logtide/api"
	"logtide/filesystem"
)

// The tests of this file compare the functions with the promises for many directories.

// pick returns one of the values.
func pick[T any](random *rand.Rand, values ...T) T { return values[random.IntN(len(values))] }

func randomData(random *rand.Rand) []byte {
	if random.IntN(20) == 0 {
		return bytes.Repeat([]byte("long"), api.MaxFile/4)[random.IntN(3):]
	}
	data := make([]byte, random.IntN(7))
	for i := range data {
		data[i] = pick[byte](random, 'a', 'b', '\n', '\r', 255)
	}
	return data
}

func randomFile(random *rand.Rand, inode int) api.File {
	x := api.File{Inode: inode, Data: randomData(random), Copy: random.IntN(2) == 0, Whole: true}
	if x.Copy && random.IntN(2) == 0 {
		x.Whole = false
		x.Left = random.IntN(len(x.Data) + 1)
	}
	return x
}

// randomDirectory returns a directory that need not be one to which changes lead: files have several names, and Open has inodes that no file has.
func randomDirectory(random *rand.Rand) api.FileSystem {
	d := disk{names: map[string]int{}, files: map[int]api.File{}, rest: map[int][]byte{}, open: map[int]bool{}}
	var f api.FileSystem
	for inode := 1; inode <= 1+random.IntN(8); inode++ {
		if random.IntN(3) > 0 {
			f.Files = append(f.Files, randomFile(random, inode))
		}
	}
	if random.IntN(4) == 0 {
		f.Files = append(f.Files, randomFile(random, math.MaxInt))
	}
	for _, x := range f.Files {
		if random.IntN(3) == 0 {
			d.open[x.Inode] = true
		}
		for range random.IntN(3) {
			d.names[randomName(random)] = x.Inode
		}
	}
	for range random.IntN(3) {
		d.open[pick(random, 0, -1, 1, 3, 7, 100, math.MaxInt, math.MinInt)] = true
	}
	if len(f.Files) > 0 && random.IntN(4) == 0 {
		for i := range api.MaxFiles - random.IntN(3) - len(d.names) {
			d.names["full"+string([]byte{byte(40 + i)})] = pick(random, f.Files...).Inode
		}
	}
	v := d.value()
	f.Names, f.Open = v.Names, v.Open
	f.Files = slices.DeleteFunc(f.Files, func(x api.File) bool {
		return !d.open[x.Inode] && !slices.ContainsFunc(f.Names, func(n api.Name) bool { return n.Inode == x.Inode })
	})
	return f
}

func randomName(random *rand.Rand) string {
	return pick(random, "a", "b", "B", "c", "d", "dd", "~", "log", "log.1", strings.Repeat("n", api.MaxName))
}

func randomChange(random *rand.Rand) api.Change {
	c := api.Change{Kind: 1 + random.IntN(8), Name: randomName(random), To: randomName(random), Data: randomData(random), N: 1 + random.IntN(5)}
	if random.IntN(10) == 0 {
		c.Kind = pick(random, 0, 9, -1, math.MaxInt, math.MinInt)
	}
	if random.IntN(10) == 0 {
		c.Name = pick(random, "", " ", "a b", "\x7f", strings.Repeat("n", api.MaxName+1))
	}
	if random.IntN(10) == 0 {
		c.To = pick(random, "", " ", "\xff", c.Name)
	}
	if random.IntN(5) == 0 {
		c.N = pick(random, 0, -1, math.MinInt, math.MaxInt, api.MaxFile, api.MaxFile-1)
	}
	if random.IntN(40) == 0 {
		c.Data = make([]byte, api.MaxFile+1)
	}
	return c
}

// checkChange compares Do with the promises, and checks that it modifies no argument. It returns what Do returns.
func checkChange(t *testing.T, f api.FileSystem, c api.Change) (api.FileSystem, api.Errno) {
	t.Helper()
	want, wantErr := doByDefinition(f, c)
	f = roomyDirectory(f)
	c.Data = roomy(c.Data, '#')
	before := memoryOf(f, c)
	got, err := filesystem.Do(f, c)
	if !same(got, want) || err != wantErr {
		t.Fatalf("Do(%s, %s) = %s, %d, want %s, %d", show(f), showChange(c), show(got), err, show(want), wantErr)
	}
	if !reflect.DeepEqual(memoryOf(f, c), before) {
		t.Fatalf("Do(%s, %s) modified its arguments", show(f), showChange(c))
	}
	if !filesystem.Check(got) {
		t.Fatalf("Check(%s) = false", show(got))
	}
	return got, err
}

func checkHold(t *testing.T, f api.FileSystem, inodes []int) api.FileSystem {
	t.Helper()
	want := holdByDefinition(f, inodes)
	f = roomyDirectory(f)
	inodes = roomy(inodes, -1)
	before, inodesBefore := memoryOf(f, api.Change{}), whole(inodes)
	got := filesystem.Hold(f, inodes)
	if !same(got, want) {
		t.Fatalf("Hold(%s, %v) = %s, want %s", show(f), inodes, show(got), show(want))
	}
	if !reflect.DeepEqual(memoryOf(f, api.Change{}), before) || !slices.Equal(whole(inodes), inodesBefore) {
		t.Fatalf("Hold(%s, %v) modified its arguments", show(f), inodes)
	}
	if !filesystem.Check(got) {
		t.Fatalf("Check(%s) = false", show(got))
	}
	return got
}

func randomInodes(random *rand.Rand) []int {
	var l []int
	for range random.IntN(8) {
		l = append(l, pick(random, 1, 2, 3, 4, 5, 6, 7, 8, 9, 0, -1, math.MaxInt))
	}
	return l
}

// checkQuestions compares Lookup and Read with the promises.
func checkQuestions(t *testing.T, f api.FileSystem, name string, inode int) {
	t.Helper()
	want, wantOK := diskOf(f).names[name]
	if got, ok := filesystem.Lookup(f, name); got != want || ok != wantOK {
		t.Fatalf("Lookup(%s, %q) = %d, %v, want %d, %v", show(f), name, got, ok, want, wantOK)
	}
	file, wantOK := readByDefinition(f, inode)
	if got, ok := filesystem.Read(f, inode); !sameFile(got, file) || ok != wantOK {
		t.Fatalf("Read(%s, %d) = %s, %v, want %s, %v", show(f), inode, showFile(got), ok, showFile(file), wantOK)
	}
}

func TestRandomDirectories(t *testing.T) {
	random := rand.New(rand.NewPCG(7, 1))
	for range 20000 {
		f := randomDirectory(random)
		if !filesystem.Check(f) {
			t.Fatalf("Check(%s) = false", show(f))
		}
		checkChange(t, f, randomChange(random))
		checkHold(t, f, randomInodes(random))
		checkQuestions(t, f, randomName(random), pick(random, 0, 1, 2, 3, 4, 5, 6, 7, 8, math.MaxInt))
	}
}

// outcome is the error of a change of a kind.
type outcome struct {
	kind int
	err  api.Errno
}

func outcomes() map[int][]api.Errno {
	return map[int][]api.Errno{
		0:             {api.ErrRange},
		api.Create:    {api.OK, api.ErrName, api.ErrExists, api.ErrTooMany, api.ErrTooLong},
		api.Append:    {api.OK, api.ErrName, api.ErrNoFile, api.ErrCopying, api.ErrTooLong},
		api.Truncate:  {api.OK, api.ErrName, api.ErrNoFile, api.ErrCopying},
		api.Rename:    {api.OK, api.ErrName, api.ErrNoFile, api.ErrState},
		api.StartCopy: {api.OK, api.ErrName, api.ErrNoFile, api.ErrCopying, api.ErrExists, api.ErrTooMany},
		api.CopyMore:  {api.OK, api.ErrName, api.ErrNoFile, api.ErrState, api.ErrRange},
		api.Remove:    {api.OK, api.ErrName, api.ErrNoFile},
		api.Replace:   {api.OK, api.ErrName, api.ErrNoFile, api.ErrTooLong},
	}
}

func TestRandomScripts(t *testing.T) {
	random := rand.New(rand.NewPCG(7, 2))
	seen := map[outcome]int{}
	for range 1000 {
		f := filesystem.New()
		if random.IntN(2) == 0 {
			f = randomDirectory(random)
		}
		start := f
		var l []api.Change
		var errors []api.Errno
		for range 40 {
			c := randomChange(random)
			next, err := checkChange(t, f, c)
			seen[outcome{c.Kind, err}]++
			f, l, errors = next, append(l, c), append(errors, err)
		}
		if got, all := filesystem.Run(start, l); !same(got, f) || !slices.Equal(all, errors) {
			t.Fatalf("Run of %d changes of %s = %s, %v, want %s, %v", len(l), show(start), show(got), all, show(f), errors)
		}
		checkHold(t, f, randomInodes(random))
	}
	for kind, errors := range outcomes() {
		for _, err := range errors {
			if seen[outcome{kind, err}] < 10 {
				t.Errorf("a change of the kind %d with the error %d was tried %d times only", kind, err, seen[outcome{kind, err}])
			}
		}
	}
}

// Values to which changes have led stay as they are while further changes, from any of them, follow.
func TestOldValuesStay(t *testing.T) {
	random := rand.New(rand.NewPCG(7, 3))
	for range 200 {
		values := []api.FileSystem{randomDirectory(random)}
		shown := []memory{memoryOf(values[0], api.Change{})}
		for range 40 {
			f := pick(random, values...)
			next, _ := filesystem.Do(f, randomChange(random))
			if random.IntN(5) == 0 {
				next = filesystem.Hold(f, randomInodes(random))
			}
			values = append(values, next)
			shown = append(shown, memoryOf(next, api.Change{}))
		}
		for i, f := range values {
			if !reflect.DeepEqual(memoryOf(f, api.Change{}), shown[i]) {
				t.Fatalf("%s was modified", show(f))
			}
		}
	}
}

// broken changes a directory at random, so that it may be none any more.
func broken(random *rand.Rand, f api.FileSystem) api.FileSystem {
	f.Names, f.Files, f.Open = slices.Clone(f.Names), slices.Clone(f.Files), slices.Clone(f.Open)
	odd := pick(random, 0, -1, 1, 2, 3, 7, math.MaxInt, math.MinInt)
	switch random.IntN(10) {
	case 0:
		f.Names = append(f.Names, api.Name{Name: pick(random, "", " ", "a", "~", "~~", "\xff"), Inode: odd})
	case 1:
		f.Files = append(f.Files, randomFile(random, odd))
	case 2:
		f.Open = append(f.Open, odd)
	case 3:
		random.Shuffle(len(f.Names), func(i, k int) { f.Names[i], f.Names[k] = f.Names[k], f.Names[i] })
	case 4:
		random.Shuffle(len(f.Files), func(i, k int) { f.Files[i], f.Files[k] = f.Files[k], f.Files[i] })
	case 5:
		random.Shuffle(len(f.Open), func(i, k int) { f.Open[i], f.Open[k] = f.Open[k], f.Open[i] })
	case 6:
		f.Open = f.Open[:random.IntN(len(f.Open)+1)]
	case 7:
		f.Names = f.Names[:random.IntN(len(f.Names)+1)]
	default:
		if len(f.Files) > 0 {
			breakFile(random, &f.Files[random.IntN(len(f.Files))], odd)
		}
	}
	return f
}

func breakFile(random *rand.Rand, x *api.File, odd int) {
	switch random.IntN(5) {
	case 0:
		x.Copy = !x.Copy
	case 1:
		x.Whole = !x.Whole
	case 2:
		x.Left = odd
	case 3:
		x.Inode = odd
	case 4:
		x.Data = make([]byte, api.MaxFile+random.IntN(2))
	}
}

func TestCheckOfRandomValues(t *testing.T) {
	random := rand.New(rand.NewPCG(7, 4))
	seen := map[bool]int{}
	for range 50000 {
		f := broken(random, randomDirectory(random))
		want := checkByDefinition(f)
		seen[want]++
		if got := filesystem.Check(f); got != want {
			t.Fatalf("Check(%s) = %v, want %v", show(f), got, want)
		}
	}
	if seen[false] < 10000 || seen[true] < 10000 {
		t.Errorf("%d values are directories, and %d are not", seen[true], seen[false])
	}
}

// R1 and R2: all functions return for values that are no directories, too, and modify no argument.
func TestValuesThatAreNoDirectories(t *testing.T) {
	random := rand.New(rand.NewPCG(7, 5))
	for range 20000 {
		f := randomDirectory(random)
		for range 1 + random.IntN(4) {
			f = broken(random, f)
		}
		if random.IntN(2) == 0 {
			f = roomyDirectory(f)
		}
		c := randomChange(random)
		before := memoryOf(f, c)
		filesystem.Check(f)
		filesystem.Do(f, c)
		filesystem.Run(f, []api.Change{c, randomChange(random)})
		filesystem.Hold(f, randomInodes(random))
		filesystem.Lookup(f, randomName(random))
		for _, x := range f.Files {
			filesystem.Read(f, x.Inode)
		}
		if !reflect.DeepEqual(memoryOf(f, c), before) {
			t.Fatalf("%s was modified (%s)", show(f), showChange(c))
		}
	}
}

// P7.7: a copy that is Whole has the bytes that its original had, whatever happened to other files in between.
func TestRandomCopies(t *testing.T) {
	random := rand.New(rand.NewPCG(7, 6))
	for range 2000 {
		f, err := checkChange(t, filesystem.New(), api.Change{Kind: api.Create, Name: "original", Data: randomData(random)})
		if err != api.OK {
			continue
		}
		f = changed(t, f, startCopy("original", "copy"))
		original, _ := filesystem.Read(f, 1)
		for {
			f, _ = filesystem.Do(f, randomChange(random))
			f, _ = filesystem.Do(f, copyMore("copy", pick(random, 1, 2, 3, 20000)))
			x, _ := filesystem.Read(f, 2)
			if !bytes.HasPrefix(original.Data, x.Data) {
				t.Fatalf("the copy of %q has %q", original.Data, x.Data)
			}
			if x.Whole {
				wantRead(t, f, "copy", string(original.Data))
				wantRead(t, f, "original", string(original.Data))
				break
			}
		}
	}
}

func TestLinesOfRandomData(t *testing.T) {
	random := rand.New(rand.NewPCG(7, 7))
	for range 10000 {
		data := roomy(slices.Concat(randomData(random), randomData(random)), '\n')
		before := whole(data)
		wantLines(t, data)
		if !bytes.Equal(whole(data), before) {
			t.Fatalf("Lines modified %q", data)
		}
	}
}
