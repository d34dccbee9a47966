package parse_test

import (
	"math/rand/v2"
	"slices"
	"strconv"
	"strings"
	"testing"

	"logtide/api"
	"logtide/parse"
)

// The tests of this file compare the functions with the promises for many arguments, and check that they modify none.

func randomName(random *rand.Rand) string {
	return pick(random, "a", "b", "c", "aa", "a.b", "a.", "_", "Z", "z9", "n"+strconv.Itoa(random.IntN(100)), strings.Repeat("x", api.MaxName-random.IntN(2)))
}

// randomNames returns names, most of which are valid and different.
func randomNames(random *rand.Rand) []string {
	var names []string
	for range pick(random, 0, 1, 2, random.IntN(5), random.IntN(20)) {
		names = append(names, randomName(random))
	}
	if random.IntN(3) > 0 {
		slices.Sort(names)
		names = slices.Compact(names)
		random.Shuffle(len(names), func(i, j int) { names[i], names[j] = names[j], names[i] })
	}
	if random.IntN(10) == 0 {
		names = append(names, numbered(pick(random, api.MaxFields-len(names), api.MaxFields+1-len(names)))...)
	}
	if len(names) > 0 && random.IntN(10) == 0 {
		names[random.IntN(len(names))] = pick(random, "", "1", ".", "a-b", "é", strings.Repeat("x", api.MaxName+1))
	}
	return names
}

func randomValue(random *rand.Rand) string {
	var value string
	for range pick(random, 0, 1, 2, random.IntN(10)) {
		value += pick(random, "a", "b", " ", "=", ",", `"`, `\`, ";", "{", "}", ":", "\t", "\n", "\r", "/", "\x00", "\x1f", "\x80", "é")
	}
	return value
}

func randomFields(random *rand.Rand) []api.Field {
	var l []api.Field
	for _, name := range randomNames(random) {
		l = append(l, api.Field{Name: name, Value: randomValue(random)})
	}
	return roomy(l, api.Field{Name: "#"})
}

func TestRandomSorts(t *testing.T) {
	random := rand.New(rand.NewPCG(11, 1))
	counts := map[api.Errno]int{}
	for range 20000 {
		l := randomFields(random)
		before := whole(l)
		want, wantErr := sortByDefinition(l)
		got, err := parse.Sort(l)
		if !slices.Equal(got, want) || err != wantErr {
			t.Fatalf("Sort(%q) = %q, %d, want %q, %d", l, got, err, want, wantErr)
		}
		if !slices.Equal(whole(l), before) {
			t.Fatalf("Sort modified %q to %q", before, whole(l))
		}
		counts[err]++
		name := randomName(random)
		i := slices.IndexFunc(l, func(f api.Field) bool { return f.Name == name })
		value, found := parse.Get(l, name)
		if found != (i >= 0) || found && value != l[i].Value || !found && value != "" {
			t.Fatalf("Get(%q, %q) = %q, %v", l, name, value, found)
		}
	}
	for _, err := range []api.Errno{api.OK, api.ErrTooMany, api.ErrName, api.ErrTwice} {
		if counts[err] < 500 {
			t.Errorf("only %d results with the error %d", counts[err], err)
		}
	}
}

// damaged returns s, or s with a few bytes that are other ones.
func damaged(random *rand.Rand, s string) string {
	b := []byte(s)
	for range pick(random, 0, 0, 1, 2) {
		at := random.IntN(len(b) + 1)
		to := min(len(b), at+random.IntN(2))
		part := pick(random, "", "a", " ", "=", ",", `"`, `\`, "{", "}", ":", "1", "\n")
		b = slices.Replace(b, at, to, []byte(part)...)
	}
	return string(b)
}

// errorsOf compares the results for random strings, and counts the errors.
func errorsOf(t *testing.T, function string, random *rand.Rand, next func() string, parsed, want func(string) ([]api.Field, api.Errno)) map[api.Errno]int {
	t.Helper()
	counts := map[api.Errno]int{}
	for range 5000 {
		s := damaged(random, next())
		l, err := parsed(s)
		wanted, wantErr := want(s)
		wantResult(t, function, s, l, err, wanted, wantErr)
		if t.Failed() {
			t.FailNow()
		}
		counts[err]++
	}
	return counts
}

// randomPairs returns fields as they are written.
func randomPairs(random *rand.Rand) string {
	s := strings.Repeat(" ", random.IntN(2))
	for _, f := range randomFields(random) {
		value := f.Value
		if strings.ContainsAny(value, ` "`) || random.IntN(2) == 0 {
			value = `"` + strings.NewReplacer(`"`, `\"`, `\`, `\\`).Replace(value) + `"`
		}
		s += f.Name + "=" + value + strings.Repeat(" ", pick(random, 1, 1, 2))
	}
	return s
}

func TestRandomPairs(t *testing.T) {
	random := rand.New(rand.NewPCG(11, 2))
	counts := errorsOf(t, "KeyValue", random, func() string { return randomPairs(random) }, parse.KeyValue, keyValueByDefinition)
	for _, err := range []api.Errno{api.OK, api.ErrSyntax, api.ErrTooMany, api.ErrName, api.ErrTwice} {
		if counts[err] < 100 {
			t.Errorf("only %d results with the error %d", counts[err], err)
		}
	}
}

func TestRandomDelimited(t *testing.T) {
	random := rand.New(rand.NewPCG(11, 3))
	counts := map[api.Errno]int{}
	for range 20000 {
		sep := pick[byte](random, ',', ',', ';', ' ', '\\', 'a', '=', 0x80, 0, '\n')
		var parts []string
		for _, f := range randomFields(random) {
			parts = append(parts, pick(random, f.Name, f.Value, quoted(f.Value)))
		}
		s := damaged(random, strings.Join(parts, string([]byte{sep})))
		want, wantErr := delimitedByDefinition(s, sep)
		if l, err := parse.Delimited(s, sep); !slices.Equal(l, want) || err != wantErr {
			t.Fatalf("Delimited(%q, %q) = %q, %d, want %q, %d", s, sep, l, err, want, wantErr)
		}
		counts[wantErr]++
	}
	for _, err := range []api.Errno{api.OK, api.ErrSyntax, api.ErrTooMany, api.ErrRange} {
		if counts[err] < 500 {
			t.Errorf("only %d results with the error %d", counts[err], err)
		}
	}
}

// quoted returns the value as a field in '"'.
func quoted(value string) string { return `"` + strings.ReplaceAll(value, `"`, `""`) + `"` }

// A writer writes a random document, and notes the fields that it has.
type writer struct {
	random *rand.Rand
	text   strings.Builder
	fields []api.Field
}

func (w *writer) token(text string) {
	w.text.WriteString(pick(w.random, "", "", "", " ", "\t", " \t") + text)
}

func (w *writer) string(s string) {
	escaped := strings.NewReplacer(`"`, `\"`, `\`, `\\`, "/", pick(w.random, "/", `\/`), "\n", `\n`, "\t", `\t`, "\r", `\r`).Replace(s)
	w.token(`"` + escaped + `"`)
}

// object writes an object, with the names of the objects around it and a dot before the names of its fields.
func (w *writer) object(before string, depth int) {
	w.token("{")
	for i, name := range randomNames(w.random) {
		if i > 0 {
			w.token(",")
		}
		w.string(name)
		w.token(":")
		switch {
		case depth < 9 && w.random.IntN(3+len(w.fields)/2) == 0:
			w.object(before+name+".", depth+1)
		default:
			w.fields = append(w.fields, api.Field{Name: before + name, Value: w.scalar()})
		}
	}
	w.token("}")
}

// scalar writes a value that is no object, and returns it.
func (w *writer) scalar() string {
	value := pick(w.random, "true", "false", "", "0", "-0", "17", "-"+strings.Repeat("9", 30), "text", "text")
	switch value {
	case "":
		w.token("null")
	case "text":
		value = strings.NewReplacer("\x00", "", "\x1f", "").Replace(randomValue(w.random))
		w.string(value)
	default:
		w.token(value)
	}
	return value
}

func TestRandomJSON(t *testing.T) {
	random := rand.New(rand.NewPCG(11, 4))
	next := func() string {
		w := writer{random: random}
		w.object("", 0)
		return w.text.String()
	}
	counts := errorsOf(t, "JSON", random, next, parse.JSON, jsonByDefinition)
	for _, err := range []api.Errno{api.OK, api.ErrSyntax, api.ErrTooMany, api.ErrName, api.ErrTwice} {
		if counts[err] < 50 {
			t.Errorf("only %d results with the error %d", counts[err], err)
		}
	}
}

// The fields of a document that is not damaged are known without parsing it.
func TestFieldsOfRandomJSON(t *testing.T) {
	random := rand.New(rand.NewPCG(11, 5))
	good := 0
	for range 5000 {
		w := writer{random: random}
		w.object("", 0)
		l, err := parse.JSON(w.text.String())
		if err == api.ErrDeep {
			continue
		}
		want, wantErr := sortByDefinition(w.fields)
		wantResult(t, "JSON", w.text.String(), l, err, want, wantErr)
		if len(l) > 1 {
			good++
		}
	}
	if good < 1000 {
		t.Errorf("only %d documents have several fields", good)
	}
}

// chain returns objects in objects, about as deeply as they can be, with what comes before and after.
func chain(random *rand.Rand) string {
	depth := pick(random, 7, 8, 8, 9, 9, 10, 12)
	var s, end string
	for range depth {
		s += pick(random, `{"a":`, `{"a":`, ` { "b" : `, `{"c":1,"d":`, `{"e":{},"f":`, `{"g":{"h":{}}, "i":`, `{"{":`)
		end += pick(random, `}`, `}`, ` }`, `,"j":{}}`, `,"k":"}"}`)
	}
	return s + pick(random, `{}`, `1`, `{"l":null}`, `"{"`) + end
}

func TestRandomDepths(t *testing.T) {
	random := rand.New(rand.NewPCG(11, 6))
	counts := errorsOf(t, "JSON", random, func() string { return chain(random) }, parse.JSON, jsonByDefinition)
	for _, err := range []api.Errno{api.OK, api.ErrSyntax, api.ErrDeep} {
		if counts[err] < 50 {
			t.Errorf("only %d results with the error %d", counts[err], err)
		}
	}
}

func TestRandomFormats(t *testing.T) {
	random := rand.New(rand.NewPCG(11, 7))
	counts := map[int]int{}
	for range 10000 {
		source := node(t, pick(random, ``, `(n:\d+)(b:[a-z])?`, `(b:[a-z]+)=(a:[^ ]*)`, `^(q:")?(c:[^,]*),|(d:.)$`, `(x:(y:a|b)*)`, `#`))
		source.Kids = roomy(source.Kids, api.Node{Op: api.Begin})
		w := writer{random: random}
		w.object("", 8)
		s := damaged(random, pick(random, randomPairs(random), randomPairs(random), w.text.String(), w.text.String(), randomValue(random), strings.Repeat("a", api.MaxText-1+random.IntN(3))))
		format := random.IntN(7) - 1
		want, wantErr := parseByDefinition(format, source, s)
		l, err := parse.Parse(format, source, s)
		wantResult(t, "Parse with the format "+strconv.Itoa(format), s, l, err, want, wantErr)
		if err == api.OK && len(l) > 0 {
			counts[format]++
		}
	}
	for _, format := range []int{1, 2, 3, 4} {
		if counts[format] < 100 {
			t.Errorf("only %d results of the format %d have fields", counts[format], format)
		}
	}
}
