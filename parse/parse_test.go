package parse_test

import (
	"math"
	"slices"
	"strings"
	"testing"

	"logtide/api"
)

// P11.5

func TestFormats(t *testing.T) {
	source := node(t, `(b:\d+) (a:[a-z]+)`)
	for _, c := range []struct {
		format int
		s      string
		want   []api.Field
	}{
		{0, ``, nil},
		{0, `a=1`, nil},
		{0, "\"{\x00", nil},
		{1, ``, nil},
		{1, `b=2 a="x y"`, fields("a", "x y", "b", "2")},
		{1, ` a= `, fields("a", "")},
		{2, ``, fields("f1", "")},
		{2, `a`, fields("f1", "a")},
		{2, `b=2 a="x,y"`, fields("f1", `b=2 a="x`, "f2", `y"`)},
		{2, `"x,y",,"""",a;b`, fields("f1", "x,y", "f2", "", "f3", `"`, "f4", "a;b")},
		{2, `1,2,3,4,5,6,7,8,9,10,11`, fields("f1", "1", "f10", "10", "f11", "11", "f2", "2", "f3", "3", "f4", "4", "f5", "5", "f6", "6", "f7", "7", "f8", "8", "f9", "9")},
		{3, `{}`, nil},
		{3, `{"b":{"c":2},"a":"x y"}`, fields("a", "x y", "b.c", "2")},
		{4, `12 ab`, fields("a", "ab", "b", "12")},
		{4, `x=12 ab;3 c`, fields("a", "ab", "b", "12")},
	} {
		wantParse(t, c.format, source, c.s, c.want)
	}
}

func TestErrorsOfFormats(t *testing.T) {
	source := node(t, `(b:\d+) (a:[a-z]+)`)
	for _, c := range []struct {
		format int
		s      string
		want   api.Errno
	}{
		{1, `a`, api.ErrSyntax},
		{1, `1=2`, api.ErrName},
		{1, `a=1 a=2`, api.ErrTwice},
		{1, repeated(api.MaxFields+1, "a=", " "), api.ErrTooMany},
		{2, `"a`, api.ErrSyntax},
		{2, `"x,y",,"""";z`, api.ErrSyntax},
		{2, strings.Repeat(",", api.MaxFields), api.ErrTooMany},
		{2, strings.Repeat(",", api.MaxFields) + `"`, api.ErrSyntax},
		{3, ``, api.ErrSyntax},
		{3, `{"a":1.5}`, api.ErrSyntax},
		{3, nested(9, `{}`), api.ErrDeep},
		{3, `{"":1}`, api.ErrName},
		{3, `{"a":1,"a":2}`, api.ErrTwice},
		{3, `{` + repeated(api.MaxFields+1, `"a":1`, ",") + `}`, api.ErrTooMany},
		{4, ``, api.ErrNoMatch},
		{4, `12`, api.ErrNoMatch},
		{4, `12  ab`, api.ErrNoMatch},
	} {
		wantParseError(t, c.format, source, c.s, c.want)
	}
}

func TestOtherFormats(t *testing.T) {
	for _, format := range []int{-1, 5, 6, -5, 1 << 8, 1 << 32, 1<<32 + 1, math.MinInt, math.MaxInt} {
		for _, s := range []string{``, `a=1`, `{}`, strings.Repeat("a", api.MaxText), strings.Repeat("a", api.MaxText+1)} {
			wantParseError(t, format, api.Node{}, s, api.ErrRange)
			wantParseError(t, format, node(t, `(a:a)`), s, api.ErrRange)
		}
	}
}

func TestLongestText(t *testing.T) {
	value := func(around string) string { return strings.Repeat("x", api.MaxText-len(around)) }
	anything := node(t, `(a:[^ ]*)`)
	wantParse(t, 0, anything, value(""), nil)
	wantParse(t, 1, anything, "a="+value("a="), fields("a", value("a=")))
	wantParse(t, 2, anything, ","+value(","), fields("f1", "", "f2", value(",")))
	wantParse(t, 3, anything, `{"a":"`+value(`{"a":""}`)+`"}`, fields("a", value(`{"a":""}`)))
	wantParse(t, 4, anything, value(""), fields("a", value("")))
	// One byte more is too much, whatever else is wrong.
	for format := range 5 {
		for _, s := range []string{"a=", ",", `{"a":1}`, `"`, " ", "{", "\x00", strings.Repeat(",", 100)} {
			for _, more := range []int{1, 2, api.MaxText} {
				wantParseError(t, format, anything, s+strings.Repeat(" ", api.MaxText-len(s)+more), api.ErrTooLong)
				wantParseError(t, format, api.Node{Op: 99}, s+strings.Repeat("x", api.MaxText-len(s)+more), api.ErrTooLong)
			}
		}
	}
}

func TestGroups(t *testing.T) {
	for _, c := range []struct {
		source, s string
		want      []api.Field
	}{
		{``, ``, nil},
		{``, `a=1`, nil},
		{`\d`, `a1`, nil},
		{`(n:\d+)ms`, `took 17ms, 18ms`, fields("n", "17")},
		{`(n:\d*)`, `took 17ms`, fields("n", "")}, // the first match is empty
		{`^(n:\d+)$`, `17`, fields("n", "17")},
		{`(z:a)(y:b)(x:c)`, `abc`, fields("x", "c", "y", "b", "z", "a")},
		{`(b:a(a:b(c:c)))`, `xabc`, fields("a", "bc", "b", "abc", "c", "c")},
		{`(a:x)|(b:y)`, `zy`, fields("b", "y")}, // only captures that took part
		{`(a:x)?(b:y)`, `y`, fields("b", "y")},
		{`(a:x?)(b:y)`, `y`, fields("a", "", "b", "y")},
		{`(a:x){0}(b:y)`, `xy`, fields("b", "y")},
		{`((a:[xy])(b:z)?)*$`, `xzy`, fields("a", "y", "b", "z")}, // the last repetitions
		{`(Aa_1:.+)`, "x\ny", fields("Aa_1", "x")},
		{`(a:[^x]+)`, "x\n\xff\x00x", fields("a", "\n\xff\x00")},
		{`(f1:[^,]*),(f2:.*)`, `"a,b"`, fields("f1", `"a`, "f2", `b"`)},
	} {
		wantParse(t, 4, node(t, c.source), c.s, c.want)
	}
	longest := strings.Repeat("a", api.MaxName)
	wantParse(t, 4, node(t, "("+longest+":b)"), "abc", fields(longest, "b"))
}

func TestMostGroups(t *testing.T) {
	names := numbered(api.MaxCaptures)
	var source strings.Builder
	for _, f := range slices.Backward(named(names...)) {
		source.WriteString("(" + f.Name + ":\\d+)")
		if f.Name != names[0] {
			source.WriteString(" ")
		}
	}
	s := "x 15 14 13 12 11 10 9 8 7 6 5 4 3 2 1 0 "
	wantParse(t, 4, node(t, source.String()), s, named(names...))
}

func TestSourcesThatMatchNothing(t *testing.T) {
	costly := node(t, `((a{40}){40}){40}`)
	twice := api.Node{Op: api.Concat, Kids: slices.Repeat([]api.Node{node(t, `(a:a)`)}, 2)}
	wrongName := api.Node{Op: api.Capture, Name: "1", Kids: []api.Node{{}}}
	for _, source := range []api.Node{node(t, `b`), node(t, `^[^a]`), {Op: 8}, {Op: -1}, {Op: math.MaxInt}, {Op: api.Class}, {Op: api.Capture}, {Op: api.Begin, Name: "x"}, {Op: api.Concat}, costly, twice, wrongName} {
		wantParseError(t, 4, source, strings.Repeat("a", 100), api.ErrNoMatch)
		// The other formats do not look at the source.
		wantParse(t, 0, source, "a", nil)
		wantParse(t, 1, source, "a=1", fields("a", "1"))
		wantParse(t, 2, source, "1", fields("f1", "1"))
		wantParse(t, 3, source, `{"a":1}`, fields("a", "1"))
	}
}
