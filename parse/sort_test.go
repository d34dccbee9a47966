package parse_test

import (
	"slices"
	"strings"
	"testing"

	"logtide/api"
	"logtide/parse"
)

// P11.1

func wantSort(t *testing.T, l, want []api.Field) {
	t.Helper()
	if sorted, err := parse.Sort(l); !slices.Equal(sorted, want) || err != api.OK {
		t.Errorf("Sort(%.200q) = %.200q, %d, want %.200q", l, sorted, err, want)
	}
}

func wantSortError(t *testing.T, l []api.Field, want api.Errno) {
	t.Helper()
	if sorted, err := parse.Sort(l); len(sorted) > 0 || err != want {
		t.Errorf("Sort(%.200q) = %.200q, %d, want nothing, %d", l, sorted, err, want)
	}
}

func TestSort(t *testing.T) {
	wantSort(t, nil, nil)
	wantSort(t, []api.Field{}, nil)
	wantSort(t, fields("b", "", "a", "x y", "c", "\n"), fields("a", "x y", "b", "", "c", "\n"))
	wantSort(t, fields("c", "1", "b", "2", "a", "3"), fields("a", "3", "b", "2", "c", "1"))
	// Names are compared byte by byte, and values do not matter.
	wantSort(t, named("a.b", "ab", "a1", "a_", "aB", "a", "_", "Z", "z", "a.", "aa"), fields("Z", "7", "_", "6", "a", "5", "a.", "9", "a.b", "0", "a1", "2", "aB", "4", "a_", "3", "aa", "10", "ab", "1", "z", "8"))
	wantSort(t, named("f10", "f9", "f1", "f2"), fields("f1", "2", "f10", "0", "f2", "3", "f9", "1"))
	wantSort(t, fields("b", "1", "a", "1"), fields("a", "1", "b", "1"))
}

func TestNamesOfFields(t *testing.T) {
	longest := strings.Repeat("a", api.MaxName)
	for _, name := range []string{"a", "z", "A", "Z", "_", "__", "_1", "a1", "a_b", "a.b", "a.", "a..b", "_.", "a.1", "Ab.C_9", longest, "_" + longest[1:], longest[1:] + "."} {
		wantSort(t, fields(name, "1"), fields(name, "1"))
		wantSort(t, fields("b", "2", name, "1"), sorted(t, "b", "2", name, "1"))
	}
	for _, name := range []string{"", ".", ".a", "1", "1a", "9_", " a", "a ", "a b", "a-b", "a=b", "a:b", "a\n", "a\x00", "\x00", "é", "aé", "a\xff", "\"a\"", longest + "a", "_" + longest, strings.Repeat("a", 1<<16)} {
		wantSortError(t, fields(name, "1"), api.ErrName)
		wantSortError(t, fields("b", "2", name, "1"), api.ErrName)
		wantSortError(t, fields(name, "1", "b", "2"), api.ErrName)
	}
}

// sorted returns fields as the definition sorts them.
func sorted(t *testing.T, namesAndValues ...string) []api.Field {
	t.Helper()
	l, err := sortByDefinition(fields(namesAndValues...))
	if err != api.OK {
		t.Fatalf("the fields %q cannot be sorted: %d", namesAndValues, err)
	}
	return l
}

func TestBytesOfNames(t *testing.T) {
	for c := range 256 {
		b := string([]byte{byte(c)})
		letter := c >= 'a' && c <= 'z' || c >= 'A' && c <= 'Z' || c == '_'
		word := letter || c >= '0' && c <= '9' || c == '.'
		for name, valid := range map[string]bool{b: letter, b + "a": letter, "a" + b: word, "a" + b + "a": word, strings.Repeat("a", api.MaxName-1) + b: word} {
			if valid {
				wantSort(t, fields(name, b), fields(name, b))
			} else {
				wantSortError(t, fields(name, b), api.ErrName)
			}
		}
	}
}

func TestMostFields(t *testing.T) {
	for _, count := range []int{api.MaxFields - 1, api.MaxFields} {
		names := numbered(count)
		want := named(names...)
		wantSort(t, want, want)
		backward := slices.Clone(want)
		slices.Reverse(backward)
		wantSort(t, backward, want)
	}
	for _, count := range []int{api.MaxFields + 1, api.MaxFields + 2, 10 * api.MaxFields} {
		wantSortError(t, named(numbered(count)...), api.ErrTooMany)
	}
}

func TestNamesThatOccurTwice(t *testing.T) {
	for _, names := range [][]string{{"a", "a"}, {"a", "b", "a"}, {"b", "a", "a"}, {"b", "b", "a"}, {"a", "a", "a"}, {"c", "a", "d", "b", "c"}, {"_", "_"}} {
		wantSortError(t, named(names...), api.ErrTwice)
	}
	wantSortError(t, fields("a", "1", "a", "1"), api.ErrTwice)
	wantSort(t, named("a", "A", "a.", "a_", "aa"), fields("A", "1", "a", "0", "a.", "2", "a_", "3", "aa", "4"))
	most := named(numbered(api.MaxFields)...)
	for i := 1; i < len(most); i++ {
		l := slices.Clone(most)
		l[i].Name = l[0].Name
		wantSortError(t, l, api.ErrTwice)
	}
}

func TestFirstErrorOfSort(t *testing.T) {
	wantSortError(t, named("a", "a", "1"), api.ErrName)
	wantSortError(t, named("1", "a", "a"), api.ErrName)
	wantSortError(t, named("1", "1"), api.ErrName)
	wantSortError(t, named("", ""), api.ErrName)
	wantSortError(t, named(slices.Repeat([]string{"a"}, api.MaxFields)...), api.ErrTwice)
	wantSortError(t, named(slices.Repeat([]string{"a"}, api.MaxFields+1)...), api.ErrTooMany)
	wantSortError(t, named(slices.Repeat([]string{"1"}, api.MaxFields+1)...), api.ErrTooMany)
	wantSortError(t, append(named(numbered(api.MaxFields)...), fields("1", "")...), api.ErrTooMany)
}

func TestSortLeavesItsArgument(t *testing.T) {
	for _, names := range [][]string{{"c", "b", "a"}, {"b", "a", "b"}, {"b", "a", "1"}} {
		l := roomy(named(names...), api.Field{Name: "#"})
		before := whole(l)
		got, _ := parse.Sort(l)
		if !slices.Equal(whole(l), before) {
			t.Errorf("Sort modified %q to %q", before, whole(l))
		}
		if len(got) > 0 && &got[0] == &l[0] {
			t.Errorf("the result of Sort(%q) has the memory of the argument", l)
		}
	}
	ordered := named("a", "b")
	if got, _ := parse.Sort(ordered); &got[0] == &ordered[0] {
		t.Error("the result of Sort has the memory of the argument that is in order")
	}
}

func TestGet(t *testing.T) {
	l := fields("b", "1", "a", "", "b", "2", "", "3", "1-", "4")
	for name, want := range map[string]string{"b": "1", "a": "", "": "3", "1-": "4"} {
		if value, found := parse.Get(l, name); value != want || !found {
			t.Errorf("Get(%q) = %q, %v, want %q", name, value, found, want)
		}
	}
	for _, name := range []string{"c", "B", "bb", "b.", " b", "1"} {
		if value, found := parse.Get(l, name); value != "" || found {
			t.Errorf("Get(%q) = %q, %v, want nothing", name, value, found)
		}
	}
	for _, none := range [][]api.Field{nil, {}} {
		if value, found := parse.Get(none, ""); value != "" || found {
			t.Errorf("Get of no fields = %q, %v", value, found)
		}
	}
	many := named(numbered(1000)...)
	if value, found := parse.Get(many, "n1999"); value != "999" || !found {
		t.Errorf("Get of the last of many fields = %q, %v", value, found)
	}
}
