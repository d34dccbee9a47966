package pattern_test

import (
	"math/rand"
	"strings"
	"testing"

	"logtide/api"
	"logtide/ascii"
	"logtide/pattern"
)

// P2.1

func printable(c byte) bool { return 32 <= c && c <= 126 }

func TestBytesThatStandForThemselves(t *testing.T) {
	for i := range 256 {
		c := byte(i)
		source := string([]byte{c})
		switch {
		case c == '^':
			wantNode(t, source, begin)
		case c == '$':
			wantNode(t, source, end)
		case c == '.':
			wantNode(t, source, dot)
		case c == '|':
			wantNode(t, source, choice(empty, empty))
		case strings.IndexByte("([\\", c) >= 0:
			wantError(t, source, 1, api.ErrSyntax)
		case !printable(c) || strings.IndexByte(")]{}*+?", c) >= 0:
			wantError(t, source, 0, api.ErrSyntax)
			wantError(t, "x|"+source+"y", 2, api.ErrSyntax)
		default:
			wantNode(t, source, one(c))
			wantNode(t, "("+source+"x)", concat(one(c), one('x')))
		}
	}
}

func TestBytesInBrackets(t *testing.T) {
	for i := range 256 {
		c := byte(i)
		first, second := "["+string([]byte{c})+"]", "[!"+string([]byte{c})+"]"
		switch {
		case c == '^':
			wantError(t, first, 2, api.ErrSyntax)
			wantError(t, second, 2, api.ErrSyntax)
		case c == ']':
			wantError(t, first, 1, api.ErrSyntax)
			wantError(t, second, 3, api.ErrSyntax)
		case c == '-':
			wantError(t, first, 1, api.ErrSyntax)
			wantError(t, second, 3, api.ErrSyntax)
		case c == '\\':
			wantError(t, first, 3, api.ErrSyntax)
			wantError(t, second, 4, api.ErrSyntax)
		case !printable(c):
			wantError(t, first, 1, api.ErrSyntax)
			wantError(t, second, 2, api.ErrSyntax)
			wantError(t, "[!-"+string([]byte{c})+"]", 3, api.ErrSyntax)
		default:
			wantNode(t, first, one(c))
			wantNode(t, second, classOf(func(b byte) bool { return b == '!' || b == c }))
			wantNode(t, "[ -"+string([]byte{c})+"]", class(' ', c))
			wantNode(t, "["+string([]byte{c})+"-~]", class(c, '~'))
		}
	}
}

// escaped returns the byte for which c stands after a backslash, if it stands for one.
func escaped(c byte) (byte, bool) {
	switch {
	case c == 'n':
		return 10, true
	case c == 't':
		return 9, true
	}
	return c, printable(c) && !ascii.Letter(c) && !ascii.Digit(c)
}

func TestEscapes(t *testing.T) {
	for i := range 256 {
		escape := "\\" + string([]byte{byte(i)})
		c, found := escaped(byte(i))
		switch {
		case found:
			wantNode(t, escape, one(c))
			wantNode(t, "["+escape+"]", one(c))
			wantNode(t, "[\\t-"+escape+"]", classOf(func(b byte) bool { return 9 <= b && b <= c }))
			wantNode(t, "["+escape+"-~]", class(c, '~'))
			wantNode(t, "["+escape+escape+"]", one(c))
		case strings.IndexByte("dws", byte(i)) < 0:
			wantError(t, escape, 1, api.ErrSyntax)
			wantError(t, "x"+escape+"x", 2, api.ErrSyntax)
			wantError(t, "["+escape+"]", 2, api.ErrSyntax)
			wantError(t, "[!-"+escape+"]", 4, api.ErrSyntax)
		}
	}
	wantError(t, "\\", 1, api.ErrSyntax)
	wantError(t, "(\\", 2, api.ErrSyntax)
	wantError(t, "[\\", 2, api.ErrSyntax)
	wantError(t, "[a-\\", 4, api.ErrSyntax)
}

func TestEscapesOfClasses(t *testing.T) {
	for _, c := range []struct {
		escape string
		in     func(c byte) bool
	}{
		{"\\d", ascii.Digit},
		{"\\w", ascii.Word},
		{"\\s", ascii.Space},
	} {
		not := func(b byte) bool { return !c.in(b) }
		withBang := func(b byte) bool { return b == '!' || c.in(b) }
		wantNode(t, c.escape, classOf(c.in))
		wantNode(t, c.escape+"*", repeat(classOf(c.in), 0, -1))
		wantNode(t, "["+c.escape+"]", classOf(c.in))
		wantNode(t, "[^"+c.escape+"]", classOf(not))
		wantNode(t, "["+c.escape+"!]", classOf(withBang))
		wantNode(t, "[!"+c.escape+"]", classOf(withBang))
		wantNode(t, "[!-!"+c.escape+"]", classOf(withBang))
		wantError(t, "[!-"+c.escape+"]", 3, api.ErrSyntax)
		wantError(t, "[!-"+c.escape, 3, api.ErrSyntax)
		wantError(t, "[~-"+c.escape+"]", 3, api.ErrSyntax)
		wantError(t, "["+c.escape+"-~]", 3, api.ErrSyntax)
		wantError(t, "["+c.escape+"-"+c.escape+"]", 3, api.ErrSyntax)
		wantError(t, "["+c.escape+"-]", 3, api.ErrSyntax)
	}
	wantNode(t, "[\\d\\w\\s]", classOf(func(b byte) bool { return ascii.Word(b) || ascii.Space(b) }))
}

func TestNamesOfCaptures(t *testing.T) {
	longest := "a" + strings.Repeat("Z", api.MaxName-1)
	for _, name := range []string{"a", "Z", "a1", "a_", "n_0_N", longest} {
		wantNode(t, "("+name+":x)", capture(name, one('x')))
		wantNode(t, "("+name+":)", capture(name, empty))
		wantNode(t, "(("+name+":x))", capture(name, one('x')))
		wantNode(t, "("+name+"::)", capture(name, one(':')))
		wantNode(t, "("+name+":b:x)", capture(name, concat(one('b'), one(':'), one('x'))))
		wantNode(t, "("+name+":(b:x))", capture(name, capture("b", one('x'))))
	}
	for _, other := range []string{"", "1", "_", "_a", "1a", "a-", "a b", " a", "a ", longest + "Z"} {
		var kids []api.Node
		for i := range len(other) {
			kids = append(kids, one(other[i]))
		}
		kids = append(kids, one(':'), one('x'))
		wantNode(t, "("+other+":x)", concat(kids...))
	}
	wantNode(t, "a:x", concat(one('a'), one(':'), one('x')))
	wantNode(t, "(x|y:a)", choice(one('x'), concat(one('y'), one(':'), one('a'))))
	wantNode(t, "(a\\:x)", concat(one('a'), one(':'), one('x')))
	wantNode(t, "(a)b:", concat(one('a'), one('b'), one(':')))
	wantNode(t, "(a*:)", concat(repeat(one('a'), 0, -1), one(':')))
	wantError(t, "(a:", 3, api.ErrSyntax)
	wantError(t, "(a", 2, api.ErrSyntax)
	wantError(t, "(a:*)", 3, api.ErrSyntax)
	wantError(t, "(a*:", 4, api.ErrSyntax)
}

func TestBytesOfNames(t *testing.T) {
	for i := range 256 {
		c := byte(i)
		if !printable(c) || strings.IndexByte(`()[]{}*+?|.^$\:`, c) >= 0 {
			continue
		}
		first, second := string([]byte{c}), "a"+string([]byte{c})
		if ascii.Letter(c) {
			wantNode(t, "("+first+":)", capture(first, empty))
		} else {
			wantNode(t, "("+first+":)", concat(one(c), one(':')))
		}
		if ascii.Word(c) {
			wantNode(t, "("+second+":)", capture(second, empty))
		} else {
			wantNode(t, "("+second+":)", concat(one('a'), one(c), one(':')))
		}
	}
}

func TestBounds(t *testing.T) {
	x := one('x')
	for _, c := range []struct {
		source string
		lo, hi int
	}{
		{"x*", 0, -1}, {"x+", 1, -1}, {"x?", 0, 1},
		{"x{0}", 0, 0}, {"x{00}", 0, 0}, {"x{1}", 1, 1}, {"x{7}", 7, 7}, {"x{07}", 7, 7}, {"x{40}", 40, 40},
		{"x{0,}", 0, -1}, {"x{9,}", 9, -1}, {"x{40,}", 40, -1},
		{"x{0,0}", 0, 0}, {"x{0,1}", 0, 1}, {"x{3,3}", 3, 3}, {"x{02,03}", 2, 3}, {"x{9,10}", 9, 10}, {"x{0,40}", 0, 40}, {"x{40,40}", 40, 40},
	} {
		wantNode(t, c.source, repeat(x, c.lo, c.hi))
		wantNode(t, "y"+c.source+"z", concat(one('y'), repeat(x, c.lo, c.hi), one('z')))
		wantNode(t, "()"+c.source[1:], repeat(empty, c.lo, c.hi))
	}
	for _, c := range []struct {
		source string
		at     int
	}{
		{"x{", 2}, {"x{}", 2}, {"x{,}", 2}, {"x{,2}", 2}, {"x{-1}", 2}, {"x{ 1}", 2}, {"x{a}", 2}, {"x{x", 2},
		{"x{1", 3}, {"x{1x", 3}, {"x{1 }", 3}, {"x{1-2}", 3}, {"x{1)", 3}, {"x{10", 4}, {"x{001}", 4}, {"x{100}", 4}, {"x{123,}", 4},
		{"x{1,", 4}, {"x{1,,}", 4}, {"x{1, 2}", 4}, {"x{1,-1}", 4}, {"x{1,2", 5}, {"x{1,2,3}", 5}, {"x{1,2x", 5}, {"x{00,002}", 7},
		{"x**", 2}, {"x+?", 2}, {"x*{2}", 2}, {"x{2}{2}", 4}, {"x{2}}", 4}, {"x??", 2},
		{"*", 0}, {"?x", 0}, {"+", 0}, {"{2}", 0}, {"x|{2}", 2}, {"(*)", 1}, {"(?:x)", 1}, {"x|+", 2}, {"(x|?)", 3},
	} {
		wantError(t, c.source, c.at, api.ErrSyntax)
	}
}

func TestLevels(t *testing.T) {
	a, b, c := one('a'), one('b'), one('c')
	for _, test := range []struct {
		source string
		want   api.Node
	}{
		{"abc", concat(a, b, c)},
		{"a|b|c", choice(a, b, c)},
		{"ab|c", choice(concat(a, b), c)},
		{"a|bc", choice(a, concat(b, c))},
		{"a(b|c)", concat(a, choice(b, c))},
		{"(a|b)c", concat(choice(a, b), c)},
		{"ab*", concat(a, repeat(b, 0, -1))},
		{"(ab)*", repeat(concat(a, b), 0, -1)},
		{"a|b*", choice(a, repeat(b, 0, -1))},
		{"(a|b)*", repeat(choice(a, b), 0, -1)},
		{"a*b+c?", concat(repeat(a, 0, -1), repeat(b, 1, -1), repeat(c, 0, 1))},
		{"[a]{2}|[b]*", choice(repeat(a, 2, 2), repeat(b, 0, -1))},
		{"(n:a|b)c", concat(capture("n", choice(a, b)), c)},
		{"(n:a){2}", repeat(capture("n", a), 2, 2)},
		{"(n:a{2})", capture("n", repeat(a, 2, 2))},
		{"^a$", concat(begin, a, end)},
		{"^*$?", concat(repeat(begin, 0, -1), repeat(end, 0, 1))},
		{"a^b", concat(a, begin, b)},
		{".*", repeat(dot, 0, -1)},
		{"\\..", concat(one('.'), dot)},
		{"(n:\\d+)ms", concat(capture("n", repeat(class('0', '9'), 1, -1)), one('m'), one('s'))},
	} {
		wantNode(t, test.source, test.want)
	}
}

// P2.2

func TestDot(t *testing.T) {
	wantNode(t, ".", classOf(func(c byte) bool { return c != '\n' }))
}

func TestShortLists(t *testing.T) {
	a, b := one('a'), one('b')
	for _, test := range []struct {
		source string
		want   api.Node
	}{
		{"", empty},
		{"()", empty},
		{"(())", empty},
		{"(a)", a},
		{"(((a)))", a},
		{"((a)(b))", concat(a, b)},
		{"((a)|(b))", choice(a, b)},
		{"(ab)", concat(a, b)},
		{"(ab)b", concat(concat(a, b), b)},
		{"a(bb)", concat(a, concat(b, b))},
		{"(a|b)|b", choice(choice(a, b), b)},
		{"a|(b|b)", choice(a, choice(b, b))},
		{"|", choice(empty, empty)},
		{"||", choice(empty, empty, empty)},
		{"a|", choice(a, empty)},
		{"|a", choice(empty, a)},
		{"(|a)b", concat(choice(empty, a), b)},
		{"()a", concat(empty, a)},
		{"()()", concat(empty, empty)},
		{"()*", repeat(empty, 0, -1)},
		{"(a*)*", repeat(repeat(a, 0, -1), 0, -1)},
		{"((a){2}){3}", repeat(repeat(a, 2, 2), 3, 3)},
		{"(n:)", capture("n", empty)},
		{"(n:(ab))", capture("n", concat(a, b))},
		{"(n:|)", capture("n", choice(empty, empty))},
		{"a{1}", repeat(a, 1, 1)},
	} {
		wantNode(t, test.source, test.want)
	}
}

func TestRangesOfClasses(t *testing.T) {
	for _, test := range []struct {
		source string
		want   api.Node
	}{
		{"[aa]", one('a')},
		{"[ab]", class('a', 'b')},
		{"[ba]", class('a', 'b')},
		{"[ac]", class('a', 'a', 'c', 'c')},
		{"[ca]", class('a', 'a', 'c', 'c')},
		{"[a-a]", one('a')},
		{"[a-b]", class('a', 'b')},
		{"[a-cb-d]", class('a', 'd')},
		{"[a-cd-f]", class('a', 'f')},
		{"[d-fa-c]", class('a', 'f')},
		{"[a-ce-g]", class('a', 'c', 'e', 'g')},
		{"[a-ce-gd]", class('a', 'g')},
		{"[a-zc-d]", class('a', 'z')},
		{"[c-da-z]", class('a', 'z')},
		{"[a-cx0]", class('0', '0', 'a', 'c', 'x', 'x')},
		{"[\\n\\t]", class(9, 10)},
		{"[\\t-~]", class(9, 126)},
		{"[\\]\\-\\^\\\\]", class('-', '-', '\\', '^')},
		{"[.*(]", class('(', '(', '*', '*', '.', '.')},
		{"[[]", one('[')},
		{"[[-\\]]", class('[', ']')},
		{"[+-\\-]", class('+', '-')},
	} {
		wantNode(t, test.source, test.want)
	}
}

func TestNegatedClasses(t *testing.T) {
	for _, test := range []struct {
		source string
		want   api.Node
	}{
		{"[^a]", class(0, 'a'-1, 'a'+1, 255)},
		{"[^ab]", class(0, 'a'-1, 'c', 255)},
		{"[^ac]", class(0, 'a'-1, 'b', 'b', 'd', 255)},
		{"[^\\n]", dot},
		{"[^\\t-~]", class(0, 8, 127, 255)},
		{"[^\\^]", class(0, '^'-1, '^'+1, 255)},
		{"[^ -~]", class(0, 31, 127, 255)},
		{"[^a-mz]", class(0, 'a'-1, 'n', 'y', '{', 255)},
	} {
		wantNode(t, test.source, test.want)
	}
	wantError(t, "[^]", 2, api.ErrSyntax)
	wantError(t, "[^^]", 2, api.ErrSyntax)
	wantError(t, "[^a^]", 3, api.ErrSyntax)
	wantError(t, "[^", 2, api.ErrSyntax)
	wantError(t, "[^b-a]", 5, api.ErrRange)
}

// escape returns a source of c in brackets, if there is one.
func escape(c byte) (string, bool) {
	switch {
	case c == '\n':
		return "\\n", true
	case c == '\t':
		return "\\t", true
	case strings.IndexByte("]-^\\", c) >= 0:
		return "\\" + string([]byte{c}), true
	}
	return string([]byte{c}), printable(c)
}

func TestRandomClasses(t *testing.T) {
	random := rand.New(rand.NewSource(2))
	for range 2000 {
		var in [256]bool
		source := "["
		negated := random.Intn(2) == 0
		if negated {
			source += "^"
		}
		for range 1 + random.Intn(12) {
			lo := byte(32 + random.Intn(95))
			hi := min(lo+byte(random.Intn(6)), 126)
			if random.Intn(8) == 0 {
				lo = byte(9 + random.Intn(2))
			}
			for c := int(lo); c <= int(hi); c++ {
				in[c] = true
			}
			first, _ := escape(lo)
			last, _ := escape(hi)
			source += first
			if lo != hi || random.Intn(2) == 0 {
				source += "-" + last
			}
		}
		wantNode(t, source+"]", classOf(func(c byte) bool { return in[c] != negated }))
	}
}

func TestLengthOfSources(t *testing.T) {
	long := func(length int) string { return "[" + strings.Repeat("a", length-2) + "]" }
	wantNode(t, long(api.MaxPattern), one('a'))
	wantError(t, long(api.MaxPattern+1), 0, api.ErrTooLong)
	wantError(t, strings.Repeat("*", api.MaxPattern), 0, api.ErrSyntax)
	wantError(t, strings.Repeat("(", api.MaxPattern), api.MaxPattern, api.ErrSyntax)
	wantError(t, "a"+strings.Repeat(")", api.MaxPattern-1), 1, api.ErrSyntax)
	for _, c := range []byte("(*a\\\x00\xff") {
		wantError(t, strings.Repeat(string([]byte{c}), api.MaxPattern+1), 0, api.ErrTooLong)
	}
	wantError(t, "a{99}"+strings.Repeat("a", api.MaxPattern), 0, api.ErrTooLong)
	wantError(t, strings.Repeat("a", 5*api.MaxPattern), 0, api.ErrTooLong)
	half := api.MaxPattern / 2
	wantNode(t, strings.Repeat("(", half)+strings.Repeat(")", half), empty)
}

func TestSyntaxErrors(t *testing.T) {
	for _, c := range []struct {
		source string
		at     int
	}{
		{")", 0}, {"a)", 1}, {"(a))", 3}, {"a)(", 1}, {"(", 1}, {"(a", 2}, {"((a)", 4}, {"(a|", 3}, {"a|)", 2},
		{"]", 0}, {"a]", 1}, {"}", 0}, {"a}", 1}, {"{", 0}, {"a\x00", 1}, {"(\x00", 1}, {"a|\x00b", 2}, {"a\n", 1}, {"\t", 0}, {"a\x7f", 1}, {"ab\xc3\xa4", 2},
		{"[", 1}, {"[]", 1}, {"[a", 2}, {"[a-", 3}, {"[a-]", 3}, {"[-a]", 1}, {"[a-b-c]", 4}, {"[a--]", 3}, {"[a-^]", 3}, {"[^a", 3}, {"[\x00]", 1}, {"[a\x00", 2}, {"[a-\x00", 3}, {"[\n]", 1}, {"[[]]", 3},
		{"(n:a", 4}, {"(n:a]", 4}, {"(n", 2}, {"a(n:b|c*+)", 8},
		{"(a*b|c\x01", 6}, {"a*\x00", 2}, {"a{1\x00", 3}, {"\\\x00", 1},
	} {
		wantError(t, c.source, c.at, api.ErrSyntax)
	}
}

func TestRangeErrors(t *testing.T) {
	for _, c := range []struct {
		source string
		at     int
	}{
		{"a{41}", 4}, {"a{41", 4}, {"a{41,}", 4}, {"a{41,2}", 4}, {"a{99}", 4}, {"a{991}", 4}, {"a{41x", 4}, {"a{41)", 4},
		{"a{1,41}", 6}, {"a{1,41", 6}, {"a{40,41}", 7}, {"a{0,99}", 6}, {"a{0,999}", 6},
		{"a{1,0}", 5}, {"a{3,2}", 5}, {"a{3,2", 5}, {"a{3,2x}", 5}, {"a{40,39}", 7}, {"a{03,02}", 7}, {"a{10,9}", 6}, {"a{9,08}", 6},
		{"[b-a]", 4}, {"[b-a", 4}, {"[b-a-]", 4}, {"[ab-ac]", 5}, {"[b-\\!]", 5}, {"[\\]-\\[]", 6}, {"[\\n-\\t]", 6}, {"[ -\\n]", 5}, {"[~-}]", 4}, {"[^b-a]", 5}, {"[a-cz-y]", 7}, {"[a-[", 4},
		{"(a{41})", 5}, {"(n:[b-a])", 7}, {"a|b{2,1}", 7},
	} {
		wantError(t, c.source, c.at, api.ErrRange)
	}
}

func TestTheFirstErrorOfASource(t *testing.T) {
	wantError(t, "a{41})", 4, api.ErrRange)
	wantError(t, "a)b{41}", 1, api.ErrSyntax)
	wantError(t, "a{41}[b-a]", 4, api.ErrRange)
	wantError(t, "[b-a]a{41}", 4, api.ErrRange)
	wantError(t, "[b-a]\\q", 4, api.ErrRange)
	wantError(t, "\\q[b-a]", 1, api.ErrSyntax)
	wantError(t, "(a:)(a:)*+", 9, api.ErrSyntax)
	wantError(t, "(a:)(a:)x{41}", 12, api.ErrRange)
	wantError(t, strings.Repeat("|", api.MaxPattern-1)+")", api.MaxPattern-1, api.ErrSyntax)
}

func TestErrorsOfCheckInParse(t *testing.T) {
	captures := func(n int) string {
		source := ""
		for i := range n {
			source += "(" + string([]byte{'a' + byte(i)}) + ":)"
		}
		return source
	}
	deep := func(n int) string { return strings.Repeat("(", n-1) + "x*" + strings.Repeat(")*", n-1) }
	wantNode(t, strings.Repeat("a", api.MaxNodes-1), concat(times(api.MaxNodes-1, one('a'))...))
	wantError(t, strings.Repeat("a", api.MaxNodes), api.MaxNodes, api.ErrTooMany)
	wantNode(t, strings.Repeat("|", api.MaxNodes-2), choice(times(api.MaxNodes-1, empty)...))
	wantError(t, strings.Repeat("|", api.MaxNodes-1), api.MaxNodes-1, api.ErrTooMany)
	wantError(t, deep(api.MaxDepth+1), 3*api.MaxDepth+2, api.ErrDeep)
	if _, at, err := pattern.Parse(deep(api.MaxDepth)); at != 3*api.MaxDepth-1 || err != api.OK {
		t.Errorf("Parse(%q): %d, %d", deep(api.MaxDepth), at, err)
	}
	wantError(t, "(a:x)(a:y)", 10, api.ErrTwice)
	wantError(t, "(a:x)|(a:y)", 11, api.ErrTwice)
	wantError(t, "(a:(a:))", 8, api.ErrTwice)
	wantNode(t, "(a:)(A:)", concat(capture("a", empty), capture("A", empty)))
	wantError(t, captures(api.MaxCaptures+1), 4*(api.MaxCaptures+1), api.ErrTooMany)
	if _, at, err := pattern.Parse(captures(api.MaxCaptures)); at != 4*api.MaxCaptures || err != api.OK {
		t.Errorf("Parse(%q): %d, %d", captures(api.MaxCaptures), at, err)
	}
}

// eachSource calls look with all sources of at most so many of these bytes.
func eachSource(bytes string, length int, look func(source string)) {
	var extend func(source string)
	extend = func(source string) {
		look(source)
		if len(source) == length {
			return
		}
		for i := range len(bytes) {
			extend(source + bytes[i:i+1])
		}
	}
	extend("")
}

// A source stops the parser at the first byte that does not fit: whatever follows this byte changes nothing, and what is before it can go on.
func TestStopsAtTheFirstByteThatDoesNotFit(t *testing.T) {
	bytes := "a4[](){}-,|*^\\:"
	eachSource(bytes, 4, func(source string) {
		n, at, err := pattern.Parse(source)
		if err == api.OK {
			return
		}
		if !equal(n, api.Node{}) || at > len(source) {
			t.Fatalf("Parse(%q) = %v, %d, %d", source, n, at, err)
		}
		if at < len(source) {
			for i := range len(bytes) {
				wantError(t, source+bytes[i:i+1], at, err)
			}
		}
		if err != api.ErrSyntax {
			return
		}
		if _, before, err := pattern.Parse(source[:at]); err != api.OK && (before != at || err != api.ErrSyntax) {
			t.Errorf("Parse(%q) stops at %d, Parse(%q) at %d", source, at, source[:at], before)
		}
		if at == len(source) && !canGoOn(source, bytes) {
			t.Errorf("Parse(%q) stops at the end, but no byte fits there", source)
		}
	})
}

// canGoOn reports whether one of the bytes fits after the source.
func canGoOn(source, bytes string) bool {
	for i := range len(bytes) {
		if _, at, err := pattern.Parse(source + bytes[i:i+1]); err == api.OK || at > len(source) {
			return true
		}
	}
	return false
}
