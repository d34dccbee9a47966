package matcher_test

import (
	"math"
	"testing"

	"logtide/api"
	"logtide/matcher"
)

// P3.1

func TestEmpty(t *testing.T) {
	wantMatch(t, "", "", 0, "0-0")
	wantMatch(t, "", "ab", 0, "0-0")
	wantMatch(t, "", "ab", 1, "1-1")
	wantMatch(t, "()()", "ab", 2, "2-2")
}

func TestClassHasItsBytes(t *testing.T) {
	classes := []api.Node{class(0, 0), class(255, 255), class(0, 255), class('a', 'a'), class('a', 'c', 'x', 'z'), class(0, 62, 64, 254), class(63, 64), class(127, 128), class(191, 192)}
	var odd api.Node
	odd.Op = api.Class
	for i := 1; i < 256; i += 2 {
		odd.Ranges = append(odd.Ranges, api.Range{Lo: byte(i), Hi: byte(i)})
	}
	for _, n := range append(classes, odd) {
		for i := range 256 {
			in := false
			for _, r := range n.Ranges {
				in = in || int(r.Lo) <= i && i <= int(r.Hi)
			}
			m, found := matcher.Match(n, string([]byte{'-', byte(i), '-'}), 1)
			if found != in || found && shown(m) != "1-2" {
				t.Errorf("Match(%v) of the byte %d = %s, %v", n, i, shown(m), found)
			}
		}
	}
}

func TestClassTakesOneByte(t *testing.T) {
	wantMatch(t, "a", "", 0, "no")
	wantMatch(t, "a", "a", 1, "no")
	wantMatch(t, "a", "aaa", 1, "1-2")
	wantMatch(t, "[^a]", "\xff", 0, "0-1")
	wantMatch(t, ".", "\n", 0, "no")
	wantMatch(t, ".", "ä", 0, "0-1")
	wantMatch(t, "..", "ä", 0, "0-2")
}

func TestBeginAndEnd(t *testing.T) {
	wantMatch(t, "^", "", 0, "0-0")
	wantMatch(t, "^", "a", 0, "0-0")
	wantMatch(t, "^", "a", 1, "no")
	wantMatch(t, "$", "", 0, "0-0")
	wantMatch(t, "$", "a", 0, "no")
	wantMatch(t, "$", "a", 1, "1-1")
	wantMatch(t, "^^a$$", "a", 0, "0-1")
	wantMatch(t, "a^", "a", 0, "no")
	wantMatch(t, "$a", "a", 0, "no")
	wantMatch(t, "^$", "", 0, "0-0")
	wantMatch(t, "^$", "\n", 0, "no")
	wantMatch(t, "a$", "a\n", 0, "no")
	wantMatch(t, "\\n^a", "\na", 0, "no")
}

func TestConcatAndChoice(t *testing.T) {
	wantMatch(t, "abc", "abcd", 0, "0-3")
	wantMatch(t, "abc", "ab", 0, "no")
	wantMatch(t, "abc", "abd", 0, "no")
	wantMatch(t, "abc", "acb", 0, "no")
	wantMatch(t, "a|ab", "ab", 0, "0-1")
	wantMatch(t, "ab|a", "ab", 0, "0-2")
	wantMatch(t, "ab|a", "ac", 0, "0-1")
	wantMatch(t, "|a", "a", 0, "0-0")
	wantMatch(t, "a|", "a", 0, "0-1")
	wantMatch(t, "a|b|c", "c", 0, "0-1")
	wantMatch(t, "a|b|c", "d", 0, "no")
	wantMatch(t, "(x:a)|(y:a)|(z:a)", "a", 0, "0-1 x:0-1")
	wantMatch(t, "(x:a)b|(y:a)c|(z:a)c", "ac", 0, "0-2 y:0-1")
	wantMatch(t, "(x:a|ab)(y:c|bcd)", "abcd", 0, "0-4 x:0-1 y:1-4")
	wantMatch(t, "(x:a|ab)(y:c|bcd)(z:d*)", "abcd", 0, "0-4 x:0-1 y:1-4 z:4-4")
	wantMatch(t, "(x:ab|a)(y:bcd|c)(z:d*)", "abcd", 0, "0-4 x:0-2 y:2-3 z:3-4")
}

func TestBoundsOfRepeat(t *testing.T) {
	for low := range 5 {
		for high := low - 1; high < 6; high++ {
			n := repeat(one('a'), low, high)
			if high < low {
				n.Max = -1
			}
			for count := range 8 {
				s := "aaaaaaaa"[:count]
				want := "no"
				switch {
				case count >= low && n.Max == -1:
					want = shown(api.Match{Span: api.Span{To: count}})
				case count >= low:
					want = shown(api.Match{Span: api.Span{To: min(count, high)}})
				}
				m, found := matcher.Match(n, s, 0)
				if got := result(t, m, found); got != want {
					t.Errorf("Match of %d to %d times in %q = %s, want %s", n.Min, n.Max, s, got, want)
				}
			}
		}
	}
}

func TestMoreRepetitionsArePreferred(t *testing.T) {
	wantMatch(t, "(x:a*)(y:a*)", "aaa", 0, "0-3 x:0-3 y:3-3")
	wantMatch(t, "(x:a?)(y:a?)", "a", 0, "0-1 x:0-1 y:1-1")
	wantMatch(t, "(x:a+)(y:a+)", "aaa", 0, "0-3 x:0-2 y:2-3")
	wantMatch(t, "(x:a{1,2})(y:a{1,2})(z:a*)", "aaaa", 0, "0-4 x:0-2 y:2-4 z:4-4")
	wantMatch(t, "(x:a{0,3})(y:a{2})", "aaaa", 0, "0-4 x:0-2 y:2-4")
	wantMatch(t, "(x:a{2,})(y:a)", "aaaa", 0, "0-4 x:0-3 y:3-4")
	wantMatch(t, "(x:(ab|a)*)(y:b*)", "aab", 0, "0-3 x:0-3 y:3-3")
	wantMatch(t, "(x:(a|ab)*)(y:b*)", "aab", 0, "0-3 x:0-2 y:2-3")
	wantMatch(t, "a{40}", "aaaaaaaaaaaaaaaaaaaaaaaaaaaaaaaaaaaaaaaaaaaaa", 0, "0-40")
}

// Repetitions that end where they begin do not count if there is no upper bound and no lower one needs them.
func TestRepetitionsThatEndWhereTheyBegin(t *testing.T) {
	wantMatch(t, "(x:)*", "a", 0, "0-0")
	wantMatch(t, "(x:)+", "a", 0, "0-0 x:0-0")
	wantMatch(t, "(x:){3,}", "a", 0, "0-0 x:0-0")
	wantMatch(t, "(x:){0,3}", "a", 0, "0-0 x:0-0")
	wantMatch(t, "(x:){0}", "a", 0, "0-0")
	wantMatch(t, "(x:)?", "a", 0, "0-0 x:0-0")
	wantMatch(t, "(x:()|a)*", "aa", 0, "0-2 x:1-2")
	wantMatch(t, "(x:()|a)+", "aa", 0, "0-2 x:1-2")
	wantMatch(t, "(x:()|a){2,}", "aa", 0, "0-2 x:1-2")
	wantMatch(t, "(x:()|a){1,3}", "aa", 0, "0-0 x:0-0")
	wantMatch(t, "(x:a*)*", "b", 0, "0-0")
	wantMatch(t, "(x:a*)+", "b", 0, "0-0 x:0-0")
	wantMatch(t, "(x:a*)*", "aab", 0, "0-2 x:0-2")
	wantMatch(t, "(x:a*){2,}", "aab", 0, "0-2 x:2-2")
	wantMatch(t, "(x:^)*a", "a", 0, "0-1")
	wantMatch(t, "(x:^|$)+", "", 0, "0-0 x:0-0")
	wantMatch(t, "((x:a)|(y:))*b", "aab", 0, "0-3 x:1-2")
	wantMatch(t, "((y:)|(x:a))*b", "aab", 0, "0-3 x:1-2")
}

// What the inner repetition has taken counts for the outer one, but not what the outer one took before the inner one, and not what was taken in an earlier repetition.
func TestRepetitionsInRepetitions(t *testing.T) {
	wantMatch(t, "((()|a)(()|b))*c", "abc", 0, "0-3")
	wantMatch(t, "(x:(()|a)(()|b))*c", "abc", 0, "0-3 x:1-2")
	wantMatch(t, "(x:(()|a)(()|b)(()|c))*d", "abcd", 0, "0-4 x:2-3")
	wantMatch(t, "(x:(y:()|a)*)*", "aa", 0, "0-2 x:0-2 y:1-2")
	wantMatch(t, "(x:a(y:()|b)*)*", "aba", 0, "0-3 y:1-2 x:2-3")
	wantMatch(t, "(x:(y:()|b)*a?)*", "ba", 0, "0-2 x:0-2 y:0-1")
	wantMatch(t, "(x:(y:a*)*b*)*", "aabab", 0, "0-5 x:3-5 y:3-4")
	wantMatch(t, "(x:(y:(z:()|a)*)+)*", "aa", 0, "0-2 x:0-2 y:0-2 z:1-2")
	wantMatch(t, "((a*)*)*b", "aaac", 0, "no")
	wantMatch(t, "((a?)*b?)*c", "aabac", 0, "0-5")
}

// P3.3

func TestOffsets(t *testing.T) {
	for _, at := range []int{-1, math.MinInt, 4, 5, math.MaxInt} {
		for _, source := range []string{"", "a*", "a", "$", "^", "(x:)"} {
			wantMatch(t, source, "aaa", at, "no")
		}
	}
	wantMatch(t, "", "", 1, "no")
	wantMatch(t, "(x:a)", "baa", 0, "no")
	wantMatch(t, "(x:a)", "baa", 1, "1-2 x:1-2")
	wantMatch(t, "(x:a)", "baa", 2, "2-3 x:2-3")
	wantMatch(t, "(x:a)", "baa", 3, "no")
	wantMatch(t, "(x:a*)", "baa", 3, "3-3 x:3-3")
	wantMatch(t, "(x:(y:a+)|b)*c", "abaac", 1, "1-5 x:2-4 y:2-4")
}

func TestGroupsThatTookPart(t *testing.T) {
	wantMatch(t, "a", "a", 0, "0-1")
	wantMatch(t, "(x:a)?b", "b", 0, "0-1")
	wantMatch(t, "(x:a)?b", "ab", 0, "0-2 x:0-1")
	wantMatch(t, "(x:a){0}b", "b", 0, "0-1")
	wantMatch(t, "(x:a)|(y:b)", "b", 0, "0-1 y:0-1")
	wantMatch(t, "(x:a)b|(y:a)c", "ac", 0, "0-2 y:0-1")
	wantMatch(t, "((x:a)b)*(y:a)c", "abac", 0, "0-4 x:0-1 y:2-3")
	wantMatch(t, "((x:a)b)?(y:a)c", "ac", 0, "0-2 y:0-1")
	wantMatch(t, "((x:a)|b)*c", "abc", 0, "0-3 x:0-1")
	wantMatch(t, "((x:a)|(y:b))*", "abab", 0, "0-4 x:2-3 y:3-4")
}

func TestOrderOfGroups(t *testing.T) {
	wantMatch(t, "(x:a)(y:b)", "ab", 0, "0-2 x:0-1 y:1-2")
	wantMatch(t, "(y:a)(x:b)", "ab", 0, "0-2 y:0-1 x:1-2")
	wantMatch(t, "((x:a)|(y:b))*", "bba", 0, "0-3 y:1-2 x:2-3")
	wantMatch(t, "(x:)(y:)a", "a", 0, "0-1 x:0-0 y:0-0")
	wantMatch(t, "(y:)(x:)a", "a", 0, "0-1 y:0-0 x:0-0")
	wantMatch(t, "(b:(a:x)y)(d:(c:))", "xy", 0, "0-2 b:0-2 a:0-1 d:2-2 c:2-2")
	wantMatch(t, "(c:(b:)(a:(z:)))(y:x)", "x", 0, "0-1 c:0-0 b:0-0 a:0-0 z:0-0 y:0-1")
	wantMatch(t, "((x:)|a)*(z:b)(y:)", "ab", 0, "0-2 z:1-2 y:2-2")
	wantMatch(t, "((z:a|b)|(y:c)(x:))*", "acb", 0, "0-3 y:1-2 z:2-3 x:2-2")
	wantMatch(t, "((z:b)|(y:c)(x:))*", "cb", 0, "0-2 y:0-1 z:1-2 x:1-1")
}

func TestGroupsOfTheLastRepetition(t *testing.T) {
	wantMatch(t, "(x:a|b)*", "abb", 0, "0-3 x:2-3")
	wantMatch(t, "(x:a|b){2}", "abb", 0, "0-2 x:1-2")
	wantMatch(t, "(x:a|b){1,2}", "abb", 0, "0-2 x:1-2")
	wantMatch(t, "(x:ab?)*", "abaab", 0, "0-5 x:3-5")
	wantMatch(t, "(x:a(y:b)?)*", "aba", 0, "0-3 y:1-2 x:2-3")
	wantMatch(t, "(x:a*){2}", "a", 0, "0-1 x:1-1")
	wantMatch(t, "(x:a|()){3}", "a", 0, "0-1 x:1-1")
	wantMatch(t, "(x:a)*ab", "aaab", 0, "0-4 x:1-2")
	wantMatch(t, "((x:a)(y:b)?)*abc", "ababc", 0, "0-5 x:0-1 y:1-2")
}

func TestSixteenCaptures(t *testing.T) {
	const source = "(p:a)(o:a)(n:a)(m:a)(l:a)(k:a)(j:a)(i:a)(h:a)(g:a)(f:a)(e:a)(d:a)(c:a)(b:a)(a:a)"
	wantMatch(t, source, "aaaaaaaaaaaaaaaa", 0, "0-16 p:0-1 o:1-2 n:2-3 m:3-4 l:4-5 k:5-6 j:6-7 i:7-8 h:8-9 g:9-10 f:10-11 e:11-12 d:12-13 c:13-14 b:14-15 a:15-16")
	wantMatch(t, source, "aaaaaaaaaaaaaaab", 0, "no")

	// so many groups that a sort that is not stable changes the order of those with the same beginning
	const pairs = "((p:h(o:)|(n:)h)|(m:(l:)g)|(k:(j:)f)|(i:(h:)e)|(g:(f:)d)|(e:(d:)c)|(c:(b:)b)|(a:a))*"
	wantMatch(t, pairs, "abcdefgh", 0, "0-8 a:0-1 c:1-2 b:1-1 e:2-3 d:2-2 g:3-4 f:3-3 i:4-5 h:4-4 k:5-6 j:5-5 m:6-7 l:6-6 p:7-8 o:8-8")
	const same = "(p:)(o:)(n:)(m:)(l:)(k:)(j:)(i:)(h:)(g:)(f:)(e:)(d:)(c:)(b:)(a:)"
	wantMatch(t, same, "x", 1, "1-1 p:1-1 o:1-1 n:1-1 m:1-1 l:1-1 k:1-1 j:1-1 i:1-1 h:1-1 g:1-1 f:1-1 e:1-1 d:1-1 c:1-1 b:1-1 a:1-1")
}

// R2

func TestArgumentsAreLeft(t *testing.T) {
	list := func() []api.Node {
		return append(make([]api.Node, 0, 4), capture("a", class('b', 'c', 'e', 'f')), repeat(choice(one('a'), empty), 1, -1), begin)
	}
	kids := list()
	n := concat(kids[:2]...)
	for _, s := range []string{"", "ba", "xbcaa"} {
		matcher.Match(n, s, 0)
		matcher.Find(n, s, 0)
		matcher.All(n, s)
		matcher.Full(n, s)
		matcher.Cost(n)
	}
	for at, want := range list() {
		if !equal(kids[at], want) {
			t.Errorf("the node %d was changed to %v", at, kids[at])
		}
	}
}

func TestResultsAreNew(t *testing.T) {
	n := parsed(t, "(x:a)(y:b)?")
	first := matcher.All(n, "abaab")
	const want = "0-2 x:0-1 y:1-2, 2-3 x:2-3, 3-5 x:3-4 y:4-5"
	for at := range first {
		if got := results(first[at:]); got != results(matcher.All(n, "abaab")[at:]) {
			t.Errorf("All = %s after a change of the match before", got)
		}
		_ = append(first[at].Groups, api.Group{Name: "z"})
		for i := range first[at].Groups {
			first[at].Groups[i] = api.Group{Name: "z"}
		}
	}
	if got := results(matcher.All(n, "abaab")); got != want {
		t.Errorf("All = %s, want %s", got, want)
	}
}
