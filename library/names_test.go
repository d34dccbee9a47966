package library_test

import (
	"strings"
	"testing"

	"logtide/api"
)

// P4.1

func TestNamesInOrder(t *testing.T) {
	for source, want := range map[string]string{
		"":                      "",
		"abc":                   "",
		"%{A}":                  "A",
		"%{A:f}":                "A",
		"%{B}%{A}":              "B A",
		"%{A}x%{B:c}%{A}":       "A B A",
		"%{A}%{A}%{A:A}":        "A A A",
		"<%{a_1:Z9_}>|%{X__:f}": "a_1 X__",
		"%{f:g}":                "f",
	} {
		wantNames(t, source, want)
	}
}

func TestOtherPercentSignsAreLiterals(t *testing.T) {
	for source, want := range map[string]string{
		"%":            "",
		"%%":           "",
		"100%":         "",
		"%}":           "",
		"{A}":          "",
		"% {A}":        "",
		"%a{A}":        "",
		"}%{A}}":       "A",
		"%%{A}":        "A",
		"%%%{A:f}%":    "A",
		`\%{A}`:        "A",
		"%(%{A}%|%)%}": "A",
	} {
		wantNames(t, source, want)
		wantExpand(t, list("A", "x"), source, strings.NewReplacer("%{A}", "(x)", "%{A:f}", "(f:x)").Replace(source))
	}
}

func TestWrongReferences(t *testing.T) {
	for _, reference := range []string{
		"%{", "%{}", "%{A", "%{A:", "%{A:}", "%{A:f", "%{:", "%{:}", "%{:f}", "%{A:f:g}", "%{A::f}", "%{A:f:}",
		"%{1}", "%{_}", "%{_A}", "%{A:1}", "%{A:_f}", "%{1A:f}",
		"%{ A}", "%{A }", "%{A: f}", "%{A:f }", "%{A :f}", "%{A-B}", "%{A.B}", "%{A:f-g}", "%{A\n}", "%{A\t:f}", "%{A\x00}", "%{\u00e9}", "%{A:\xff}", "%{A{}", "%{A,B}",
		"%{%{A}}", "%{A%{A}", "%{A:%{A}}", "%{A:f%{A}", "%{{A}}", "%{%A}",
	} {
		wantNoNames(t, reference)
		wantNoNames(t, "x"+reference)
		wantNoNames(t, "%{A}"+reference)
		wantNoNames(t, "%"+reference)
	}
	for _, after := range []string{"%{A}", "}", "x}", ":f}"} {
		wantNoNames(t, "%{1}"+after)
		wantNoNames(t, "%{A:}"+after)
		wantNoNames(t, "%{A "+after)
	}
}

func TestLongestNames(t *testing.T) {
	longest := strings.Repeat("n", api.MaxName)
	wantNames(t, "%{"+longest+"}", longest)
	wantNames(t, "%{"+longest+":"+longest+"}", longest)
	wantNames(t, "%{A:"+longest+"}", "A")
	wantNoNames(t, "%{"+longest+"n}")
	wantNoNames(t, "%{"+longest+"n:f}")
	wantNoNames(t, "%{A:"+longest+"n}")
}

func TestNamesOfLongSources(t *testing.T) {
	count := 100000
	wantNames(t, strings.Repeat("%{A}", count), strings.TrimSpace(strings.Repeat("A ", count)))
	wantNames(t, strings.Repeat("%", count), "")
	wantNoNames(t, strings.Repeat("%{A}", count)+"%{")
	wantNoNames(t, strings.Repeat("%{", count))
}
