package pattern_test

import (
	"math/rand"
	"strings"
	"testing"

	"logtide/api"
	"logtide/pattern"
)

// P2.5

func TestFormat(t *testing.T) {
	a, b, c := one('a'), one('b'), one('c')
	for _, test := range []struct {
		n    api.Node
		want string
	}{
		{empty, "()"}, {begin, "^"}, {end, "$"}, {a, "[a]"}, {dot, "[^\\n]"},

		{concat(a, b), "[a][b]"},
		{concat(a, b, c), "[a][b][c]"},
		{concat(empty, begin, end, empty), "()^$()"},
		{concat(concat(a, b), c), "([a][b])[c]"},
		{concat(a, concat(b, c)), "[a]([b][c])"},
		{concat(a, choice(b, c)), "[a]([b]|[c])"},
		{concat(choice(a, b), c), "([a]|[b])[c]"},
		{concat(repeat(a, 0, 1), repeat(b, 2, 2)), "[a]{0,1}[b]{2}"},
		{concat(capture("n", a), b), "(n:[a])[b]"},

		{choice(a, b), "[a]|[b]"},
		{choice(a, b, c), "[a]|[b]|[c]"},
		{choice(empty, empty), "()|()"},
		{choice(begin, end), "^|$"},
		{choice(choice(a, b), c), "([a]|[b])|[c]"},
		{choice(a, choice(b, c)), "[a]|([b]|[c])"},
		{choice(concat(a, b), c), "[a][b]|[c]"},
		{choice(a, concat(b, c)), "[a]|[b][c]"},
		{choice(repeat(a, 0, -1), capture("n", b)), "[a]{0,}|(n:[b])"},

		{repeat(a, 0, -1), "[a]{0,}"},
		{repeat(a, 1, -1), "[a]{1,}"},
		{repeat(a, 40, -1), "[a]{40,}"},
		{repeat(a, 0, 1), "[a]{0,1}"},
		{repeat(a, 9, 10), "[a]{9,10}"},
		{repeat(a, 0, 0), "[a]{0}"},
		{repeat(a, 1, 1), "[a]{1}"},
		{repeat(a, 40, 40), "[a]{40}"},
		{repeat(a, 0, 40), "[a]{0,40}"},
		{repeat(empty, 2, 3), "(){2,3}"},
		{repeat(begin, 2, 3), "^{2,3}"},
		{repeat(end, 2, 3), "${2,3}"},
		{repeat(concat(a, b), 2, 2), "([a][b]){2}"},
		{repeat(choice(a, b), 2, 2), "([a]|[b]){2}"},
		{repeat(repeat(a, 0, 1), 2, 2), "([a]{0,1}){2}"},
		{repeat(repeat(repeat(a, 0, 1), 2, 2), 3, -1), "(([a]{0,1}){2}){3,}"},
		{repeat(capture("n", a), 2, 2), "(n:[a]){2}"},

		{capture("n", a), "(n:[a])"},
		{capture("n_1", empty), "(n_1:())"},
		{capture("n", begin), "(n:^)"},
		{capture("n", concat(a, b)), "(n:[a][b])"},
		{capture("n", choice(a, b)), "(n:[a]|[b])"},
		{capture("n", repeat(a, 2, 2)), "(n:[a]{2})"},
		{capture("n", capture("m", a)), "(n:(m:[a]))"},
		{concat(capture("n", repeat(class('0', '9'), 1, -1)), one('m'), one('s')), "(n:[0-9]{1,})[m][s]"},
	} {
		wantSource(t, test.n, test.want)
	}
}

func TestFormatOfClasses(t *testing.T) {
	for _, test := range []struct {
		n    api.Node
		want string
	}{
		{class('a', 'b'), "[a-b]"},
		{class('a', 'z'), "[a-z]"},
		{class('0', '9', 'A', 'Z', '_', '_', 'a', 'z'), "[0-9A-Z_a-z]"},
		{class(9, 9, 32, 32), "[\\t ]"},
		{class(9, 10), "[\\t-\\n]"},
		{class(9, 126), "[\\t-~]"},
		{class(10, 32), "[\\n- ]"},
		{class('(', '(', '*', '*', '.', '.'), "[(*.]"},
		{class('-', '-', '\\', '^'), "[\\-\\\\-\\^]"},
		{class('[', ']'), "[[-\\]]"},
		{class('+', '-'), "[+-\\-]"},
		{class('-', '/'), "[\\--/]"},
		{class(0, 9, 11, 255), "[^\\n]"},
		{class(0, 8, 127, 255), "[^\\t-~]"},
		{class(0, 31, 127, 255), "[^ -~]"},
		{class(0, 'a'-1, 'a'+1, 255), "[^a]"},
		{class(0, '^'-1, '^'+1, 255), "[^\\^]"},
		{class(0, ','-1, ','+1, '\\'-1, '^', 255), "[^,\\\\-\\]]"},
		{class(0, 8, 11, ' ', '-', '-', 127, 255), "[^\\t-\\n!-,.-~]"},
		{class(0, 'a'-1, 'c', 'c', 'e', 255), "[^a-bd]"},
	} {
		wantSource(t, test.n, test.want)
		wantNode(t, test.want, test.n)
		wantSource(t, repeat(test.n, 2, 2), test.want+"{2}")
	}
}

// sourceOf is the definition of the source of a class; false if there is none.
func sourceOf(n api.Node) (string, bool) {
	in := func(c byte) bool {
		for _, r := range n.Ranges {
			if r.Lo <= c && c <= r.Hi {
				return true
			}
		}
		return false
	}
	if source, ok := listed("[", n); ok {
		return source, true
	}
	others := classOf(func(c byte) bool { return !in(c) })
	if len(others.Ranges) == 0 {
		return "", false
	}
	return listed("[^", others)
}

// listed returns the source that lists the ranges; false if one of their ends cannot be written.
func listed(source string, n api.Node) (string, bool) {
	for _, r := range n.Ranges {
		lo, first := escape(r.Lo)
		hi, last := escape(r.Hi)
		if !first || !last {
			return "", false
		}
		source += lo
		if r.Hi != r.Lo {
			source += "-" + hi
		}
	}
	return source + "]", true
}

func checkClass(t *testing.T, n api.Node) {
	t.Helper()
	if source, ok := sourceOf(n); ok {
		wantSource(t, n, source)
	} else {
		wantNoSource(t, n, api.ErrSyntax)
	}
}

func TestFormatOfAllRanges(t *testing.T) {
	for lo := range 256 {
		for hi := lo; hi < 256; hi++ {
			checkClass(t, class(byte(lo), byte(hi)))
			checkClass(t, classOf(func(c byte) bool { return int(c) < lo || int(c) > hi || c == 0 }))
		}
	}
}

func TestFormatOfRandomClasses(t *testing.T) {
	random := rand.New(rand.NewSource(25))
	for range 3000 {
		var in [256]bool
		negated := random.Intn(2) == 0
		for range 1 + random.Intn(10) {
			lo := 9 + random.Intn(118)
			hi := min(lo+random.Intn(20), 126)
			for c := lo; c <= hi; c++ {
				in[c] = true
			}
		}
		n := classOf(func(c byte) bool { return in[c] != negated })
		if len(n.Ranges) > 0 {
			checkClass(t, n)
		}
	}
}

func TestClassesWithoutASource(t *testing.T) {
	for _, n := range []api.Node{
		class(0, 255), one(0), one(8), one(11), one(13), one(31), one(127), one(128), one(200), one(255),
		class(0, 100), class(100, 255), class(11, 20), class(8, 9), class(10, 11), class('a', 127), class(31, 'a'),
		class(0, 254), class(1, 255), class(0, 7, 127, 255), class(0, 8, 126, 126, 128, 255),
		class('a', 'a', 200, 200), class(0, 0, 'a', 'a'), class(0, 'a', 'c', 254),
	} {
		wantNoSource(t, n, api.ErrSyntax)
		wantNoSource(t, concat(one('a'), n, one('b')), api.ErrSyntax)
		wantNoSource(t, capture("n", repeat(n, 0, 1)), api.ErrSyntax)
	}
}

func TestLengthOfFormat(t *testing.T) {
	letters := (api.MaxPattern - 1) / len("[a]")
	full := append(times(letters, one('a')), begin)
	wantSource(t, concat(full...), strings.Repeat("[a]", letters)+"^")
	wantNoSource(t, concat(append(full, end)...), api.ErrTooLong)
	wantNoSource(t, concat(times(api.MaxNodes-1, one('a'))...), api.ErrTooLong)
	wantSource(t, concat(times(api.MaxNodes-1, begin)...), strings.Repeat("^", api.MaxNodes-1))
	wantNoSource(t, concat(append(full, end, one(200))...), api.ErrSyntax)
	wantNoSource(t, concat(append([]api.Node{class(0, 255)}, append(full, end)...)...), api.ErrSyntax)
}

func TestErrorsOfCheckInFormat(t *testing.T) {
	for _, c := range []struct {
		n    api.Node
		want api.Errno
	}{
		{api.Node{Op: 8}, api.ErrSyntax},
		{class(), api.ErrSyntax},
		{class('b', 'b', 'a', 'a'), api.ErrSyntax},
		{concat(empty), api.ErrSyntax},
		{capture("1", empty), api.ErrName},
		{repeat(empty, 2, 1), api.ErrRange},
		{wrapped(api.MaxDepth+1, empty), api.ErrDeep},
		{concat(times(api.MaxNodes, begin)...), api.ErrTooMany},
		{concat(capture("a", empty), capture("a", empty)), api.ErrTwice},
		{concat(one(200), capture("1", empty)), api.ErrName},
		{concat(one(200), capture("a", empty), capture("a", empty)), api.ErrTwice},
		{concat(append(times(200, one('a')), repeat(empty, 2, 1))...), api.ErrRange},
		{around(), api.ErrDeep},
	} {
		wantNoSource(t, c.n, c.want)
	}
}

// P2.7

// sourceBytes are bytes that sources contain.
const sourceBytes = "ab-^]\\.9 ~"

// randomNode returns a node of at most this depth.
func randomNode(random *rand.Rand, depth int, names *string) api.Node {
	if depth == 0 {
		leaves := []api.Node{empty, begin, end, dot, class('0', '9'), one(sourceBytes[random.Intn(len(sourceBytes))]), class(9, 10), class(0, 'f', 'h', 255)}
		return leaves[random.Intn(len(leaves))]
	}
	kid := func() api.Node { return randomNode(random, random.Intn(depth), names) }
	switch random.Intn(5) {
	case 0:
		return concat(kid(), kid(), kid())
	case 1:
		return choice(kid(), kid())
	case 2:
		lo := random.Intn(api.MaxRepeat + 1)
		return repeat(kid(), lo, lo+random.Intn(api.MaxRepeat+1-lo))
	case 3:
		return repeat(kid(), random.Intn(api.MaxRepeat+1), -1)
	}
	*names += "x"
	return capture(*names, kid())
}

func TestParseOfFormat(t *testing.T) {
	random := rand.New(rand.NewSource(27))
	formatted := 0
	for range 5000 {
		names := ""
		n := randomNode(random, 1+random.Intn(6), &names)
		source, err := pattern.Format(n)
		if err == api.OK {
			wantNode(t, source, n)
			formatted++
		}
	}
	if formatted < 4000 {
		t.Errorf("only %d nodes have a source", formatted)
	}
}

func TestFormatOfParse(t *testing.T) {
	eachSource("ab4[](){},|*.\\:", 4, func(source string) {
		n, _, err := pattern.Parse(source)
		if err != api.OK {
			return
		}
		formatted, err := pattern.Format(n)
		if err != api.OK {
			t.Fatalf("Format of Parse(%q): %d", source, err)
		}
		wantNode(t, formatted, n)
	})
}
