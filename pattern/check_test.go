package pattern_test

import (
	"fmt"
	"math"
	"strings"
	"testing"

	"logtide/api"
	"logtide/pattern"
)

// P2.3

// valid returns a node of each operation.
func valid() []api.Node {
	return []api.Node{empty, one('a'), concat(empty, empty), choice(empty, empty), repeat(empty, 2, 3), capture("a", empty), begin, end}
}

func TestCheckOfEachOperation(t *testing.T) {
	for op, n := range valid() {
		if n.Op != op {
			t.Fatalf("the operation of %v is not %d", n, op)
		}
		wantCheck(t, n, api.OK)
		n.Ranges = append([]api.Range{}, n.Ranges...)
		n.Kids = append([]api.Node{}, n.Kids...)
		wantCheck(t, n, api.OK)
	}
	for _, op := range []int{-1, 8, 9, 100, math.MaxInt, math.MinInt} {
		wantCheck(t, api.Node{Op: op}, api.ErrSyntax)
		wantCheck(t, concat(empty, api.Node{Op: op}), api.ErrSyntax)
	}
}

func TestCheckOfRanges(t *testing.T) {
	for _, c := range []struct {
		n    api.Node
		want api.Errno
	}{
		{class(), api.ErrSyntax},
		{api.Node{Op: api.Class, Ranges: []api.Range{}}, api.ErrSyntax},
		{class(0, 0), api.OK},
		{class(255, 255), api.OK},
		{class(0, 255), api.OK},
		{class('b', 'a'), api.ErrSyntax},
		{class(255, 0), api.ErrSyntax},
		{class(0, 0, 2, 2), api.OK},
		{class(0, 0, 1, 1), api.ErrSyntax},
		{class(0, 0, 0, 0), api.ErrSyntax},
		{class(0, 253, 255, 255), api.OK},
		{class(0, 254, 255, 255), api.ErrSyntax},
		{class(0, 255, 255, 255), api.ErrSyntax},
		{class(0, 255, 0, 0), api.ErrSyntax},
		{class(0, 255, 1, 1), api.ErrSyntax},
		{class('a', 'c', 'e', 'g'), api.OK},
		{class('a', 'c', 'd', 'g'), api.ErrSyntax},
		{class('a', 'c', 'c', 'g'), api.ErrSyntax},
		{class('a', 'c', 'b', 'g'), api.ErrSyntax},
		{class('a', 'g', 'c', 'd'), api.ErrSyntax},
		{class('e', 'g', 'a', 'c'), api.ErrSyntax},
		{class('a', 'b', 'd', 'e', 'g', 'h'), api.OK},
		{class('a', 'b', 'd', 'e', 'f', 'h'), api.ErrSyntax},
		{class('a', 'b', 'd', 'c', 'g', 'h'), api.ErrSyntax},
		{class('a', 'b', 'd', 'e', 'h', 'g'), api.ErrSyntax},
		{classOf(func(c byte) bool { return c%2 == 1 }), api.OK},
	} {
		wantCheck(t, c.n, c.want)
		wantCheck(t, concat(empty, c.n), c.want)
	}
}

func TestCheckOfTheNumberOfKids(t *testing.T) {
	least := []int{0, 0, 2, 2, 1, 1, 0, 0}
	most := []int{0, 0, 5, 5, 1, 1, 0, 0}
	for op, n := range valid() {
		for kids := range 6 {
			n.Kids = times(kids, empty)
			want := api.OK
			if kids < least[op] || kids > most[op] {
				want = api.ErrSyntax
			}
			wantCheck(t, n, want)
		}
	}
}

func TestCheckOfFieldsThatAreNotUsed(t *testing.T) {
	for op, n := range valid() {
		changed := n
		changed.Ranges = []api.Range{{Lo: 'x', Hi: 'x'}}
		checkUnused(t, changed, op == api.Class)
		changed = n
		changed.Name = "x"
		checkUnused(t, changed, op == api.Capture)
		changed.Name = "-"
		if op != api.Capture {
			checkUnused(t, changed, false)
		}
		for _, bound := range []int{1, 3} {
			changed = n
			changed.Min = bound
			checkUnused(t, changed, op == api.Repeat)
		}
		for _, bound := range []int{-1, 2} {
			changed = n
			changed.Max = bound
			checkUnused(t, changed, op == api.Repeat)
		}
	}
}

func checkUnused(t *testing.T, n api.Node, used bool) {
	t.Helper()
	want := api.ErrSyntax
	if used {
		want = api.OK
	}
	wantCheck(t, n, want)
}

func TestCheckOfNames(t *testing.T) {
	longest := strings.Repeat("a", api.MaxName)
	for _, name := range []string{"a", "z", "A", "Z", "a0", "a9", "a_", "aZ", "a_9z", longest} {
		wantCheck(t, capture(name, empty), api.OK)
	}
	for _, name := range []string{"", "0", "_", "_a", "9a", "a-", "a b", "a:", " a", "a ", "a\x00", "\xc3\xa4", "a\xc3\xa4", "a.b", longest + "a", strings.Repeat("a", 1000)} {
		wantCheck(t, capture(name, empty), api.ErrName)
	}
}

func TestCheckOfBounds(t *testing.T) {
	for lo := -2; lo <= api.MaxRepeat+2; lo++ {
		for hi := -3; hi <= api.MaxRepeat+2; hi++ {
			want := api.ErrRange
			if 0 <= lo && lo <= api.MaxRepeat && (hi == -1 || lo <= hi && hi <= api.MaxRepeat) {
				want = api.OK
			}
			wantCheck(t, repeat(empty, lo, hi), want)
		}
	}
	for _, far := range []int{math.MaxInt, math.MinInt} {
		wantCheck(t, repeat(empty, 0, far), api.ErrRange)
		wantCheck(t, repeat(empty, far, -1), api.ErrRange)
		wantCheck(t, repeat(empty, far, far), api.ErrRange)
	}
}

func TestCheckOfDepth(t *testing.T) {
	wantCheck(t, wrapped(api.MaxDepth, empty), api.OK)
	wantCheck(t, wrapped(api.MaxDepth+1, empty), api.ErrDeep)
	wantCheck(t, wrapped(api.MaxDepth-1, concat(empty, empty)), api.OK)
	wantCheck(t, wrapped(api.MaxDepth, concat(empty, empty)), api.ErrDeep)
	wantCheck(t, concat(empty, wrapped(api.MaxDepth-1, empty)), api.OK)
	wantCheck(t, concat(empty, wrapped(api.MaxDepth, empty)), api.ErrDeep)
	wantCheck(t, around(), api.ErrDeep)
}

func TestCheckOfTheNumberOfNodes(t *testing.T) {
	wantCheck(t, concat(times(api.MaxNodes-1, empty)...), api.OK)
	wantCheck(t, concat(times(api.MaxNodes, empty)...), api.ErrTooMany)
	wantCheck(t, choice(concat(times(api.MaxNodes-3, empty)...), empty), api.OK)
	wantCheck(t, choice(concat(times(api.MaxNodes-3, empty)...), begin, empty), api.ErrTooMany)
	wantCheck(t, concat(times(100000, empty)...), api.ErrTooMany)
}

func TestCheckOfTheNamesOfAllCaptures(t *testing.T) {
	captures := func(count int) api.Node {
		n := api.Node{Op: api.Concat}
		for i := range count {
			n.Kids = append(n.Kids, capture(fmt.Sprint("n", i), empty))
		}
		return n
	}
	wantCheck(t, captures(api.MaxCaptures), api.OK)
	wantCheck(t, captures(api.MaxCaptures+1), api.ErrTooMany)
	wantCheck(t, concat(capture("a", empty), capture("A", empty), capture("aa", empty)), api.OK)
	wantCheck(t, concat(capture("a", empty), capture("a", empty)), api.ErrTwice)
	wantCheck(t, choice(capture("a", one('x')), empty, capture("a", one('y'))), api.ErrTwice)
	wantCheck(t, capture("a", capture("a", empty)), api.ErrTwice)
	wantCheck(t, concat(repeat(capture("a", empty), 0, 1), capture("b", capture("a", empty))), api.ErrTwice)
	wantCheck(t, concat(captures(api.MaxCaptures+1), capture("n0", empty)), api.ErrTwice)
	wantCheck(t, concat(captures(api.MaxCaptures+1), capture("n", empty), capture("n", empty)), api.ErrTwice)
}

func TestTheFirstErrorOfANode(t *testing.T) {
	bad := api.Node{Op: 8}
	// The node at the depth MaxDepth + 1 is the last one that is visited of 400 or 401.
	before := api.MaxNodes - api.MaxDepth - 2
	wantCheck(t, concat(append(times(before, empty), wrapped(api.MaxDepth, bad))...), api.ErrDeep)
	wantCheck(t, concat(append(times(before+1, empty), wrapped(api.MaxDepth, bad))...), api.ErrTooMany)
	wantCheck(t, concat(append(times(api.MaxNodes-2, empty), bad)...), api.ErrSyntax)
	wantCheck(t, concat(append(times(api.MaxNodes-1, empty), bad)...), api.ErrTooMany)
	wantCheck(t, wrapped(api.MaxDepth, bad), api.ErrSyntax)
	wantCheck(t, wrapped(api.MaxDepth+1, bad), api.ErrDeep)

	nameless := capture("-", empty)
	nameless.Max = 1
	wantCheck(t, nameless, api.ErrSyntax)
	boundless := repeat(empty, 3, 2)
	boundless.Kids = nil
	wantCheck(t, boundless, api.ErrSyntax)
	wantCheck(t, api.Node{Op: api.Capture, Name: "-"}, api.ErrSyntax)
}

func TestTheFirstNodeWithAnError(t *testing.T) {
	syntax, name, bounds := class(), capture("", empty), repeat(empty, 41, -1)
	wantCheck(t, concat(syntax, name, bounds), api.ErrSyntax)
	wantCheck(t, concat(name, syntax, bounds), api.ErrName)
	wantCheck(t, concat(bounds, name, syntax), api.ErrRange)
	wantCheck(t, concat(concat(empty, name), bounds), api.ErrName)
	wantCheck(t, choice(concat(empty, bounds), syntax), api.ErrRange)
	wantCheck(t, capture("", syntax), api.ErrName)
	wantCheck(t, repeat(name, 3, 2), api.ErrRange)
	wantCheck(t, repeat(wrapped(api.MaxDepth, empty), 3, 2), api.ErrRange)
	wantCheck(t, concat(wrapped(api.MaxDepth, empty), syntax), api.ErrDeep)
	wantCheck(t, concat(syntax, wrapped(api.MaxDepth, empty)), api.ErrSyntax)
	wantCheck(t, concat(append([]api.Node{bounds}, times(api.MaxNodes, empty)...)...), api.ErrRange)

	twice := concat(capture("a", empty), capture("a", empty))
	wantCheck(t, concat(twice, syntax), api.ErrSyntax)
	wantCheck(t, concat(twice, name), api.ErrName)
	wantCheck(t, concat(twice, bounds), api.ErrRange)
	wantCheck(t, concat(twice, wrapped(api.MaxDepth, empty)), api.ErrDeep)
	wantCheck(t, concat(append(times(api.MaxNodes, empty), twice)...), api.ErrTooMany)
}

// P2.4

func TestSize(t *testing.T) {
	for _, c := range []struct {
		n    api.Node
		want int
	}{
		{empty, 1},
		{one('a'), 1},
		{api.Node{Op: 99}, 1},
		{concat(empty), 2},
		{concat(empty, begin, end), 4},
		{capture("a", repeat(one('a'), 1, 2)), 3},
		{choice(concat(empty, empty), repeat(empty, 0, 1), end), 7},
		{api.Node{Op: api.Begin, Kids: times(3, api.Node{Op: -5, Kids: times(2, class())})}, 10},
		{wrapped(100, empty), 101},
		{wrapped(api.MaxNodes-2, empty), api.MaxNodes - 1},
		{wrapped(api.MaxNodes-1, empty), api.MaxNodes},
		{wrapped(api.MaxNodes, empty), api.MaxNodes + 1},
		{wrapped(api.MaxNodes+1, empty), api.MaxNodes + 1},
		{concat(times(api.MaxNodes-2, empty)...), api.MaxNodes - 1},
		{concat(times(api.MaxNodes-1, empty)...), api.MaxNodes},
		{concat(times(api.MaxNodes, empty)...), api.MaxNodes + 1},
		{concat(times(api.MaxNodes+1, empty)...), api.MaxNodes + 1},
		{concat(times(100000, empty)...), api.MaxNodes + 1},
		{concat(times(2, concat(times(api.MaxNodes/2-2, empty)...))...), api.MaxNodes - 1},
		{concat(times(2, concat(times(api.MaxNodes/2-1, empty)...))...), api.MaxNodes + 1},
		{concat(times(2, concat(times(api.MaxNodes/2, empty)...))...), api.MaxNodes + 1},
		{concat(times(30, concat(times(30, empty)...))...), api.MaxNodes + 1},
		{around(), api.MaxNodes + 1},
	} {
		if got := pattern.Size(c.n); got != c.want {
			t.Errorf("Size = %d, want %d", got, c.want)
		}
	}
}

// P2.6

func checkSame(t *testing.T, a, b api.Node, want bool) {
	t.Helper()
	if got := pattern.Same(a, b); got != want {
		t.Errorf("Same(%v, %v) = %v", a, b, got)
	}
	if got := pattern.Same(b, a); got != want {
		t.Errorf("Same(%v, %v) = %v", b, a, got)
	}
}

func TestSameByFields(t *testing.T) {
	node := func() api.Node {
		return api.Node{Op: 4, Ranges: []api.Range{{Lo: 'a', Hi: 'c'}, {Lo: 'e', Hi: 'g'}}, Name: "n", Kids: []api.Node{one('a'), empty}, Min: 2, Max: 3}
	}
	changes := []func(n *api.Node){
		func(n *api.Node) { n.Op = 5 },
		func(n *api.Node) { n.Op = -4 },
		func(n *api.Node) { n.Ranges[0].Lo = 'b' },
		func(n *api.Node) { n.Ranges[0].Hi = 'b' },
		func(n *api.Node) { n.Ranges[1].Lo = 'f' },
		func(n *api.Node) { n.Ranges[1].Hi = 'f' },
		func(n *api.Node) { n.Ranges[0], n.Ranges[1] = n.Ranges[1], n.Ranges[0] },
		func(n *api.Node) { n.Ranges = n.Ranges[:1] },
		func(n *api.Node) { n.Ranges = nil },
		func(n *api.Node) { n.Name = "" },
		func(n *api.Node) { n.Name = "N" },
		func(n *api.Node) { n.Name = "n1" },
		func(n *api.Node) { n.Kids[0] = one('b') },
		func(n *api.Node) { n.Kids[0].Min = 1 },
		func(n *api.Node) { n.Kids[1] = begin },
		func(n *api.Node) { n.Kids[1].Kids = []api.Node{empty} },
		func(n *api.Node) { n.Kids[0], n.Kids[1] = n.Kids[1], n.Kids[0] },
		func(n *api.Node) { n.Kids = n.Kids[:1] },
		func(n *api.Node) { n.Kids = append(n.Kids, empty) },
		func(n *api.Node) { n.Kids = nil },
		func(n *api.Node) { n.Min = 1 },
		func(n *api.Node) { n.Max = -1 },
		func(n *api.Node) { n.Min, n.Max = 3, 2 },
	}
	checkSame(t, node(), node(), true)
	for at, change := range changes {
		changed := node()
		change(&changed)
		again := node()
		change(&again)
		checkSame(t, changed, again, true)
		checkSame(t, node(), changed, false)
		checkSame(t, concat(empty, node()), concat(empty, changed), false)
		checkSame(t, concat(node(), empty), concat(changed, empty), false)
		checkSame(t, wrapped(5, node()), wrapped(5, changed), false)
		for _, other := range changes[:at] {
			another := node()
			other(&another)
			checkSame(t, changed, another, equal(changed, another))
		}
	}
}

func TestSameOfLists(t *testing.T) {
	bare := api.Node{Op: api.Concat, Ranges: []api.Range{}, Kids: []api.Node{}}
	checkSame(t, bare, api.Node{Op: api.Concat}, true)
	checkSame(t, concat(bare, empty), concat(api.Node{Op: api.Concat}, empty), true)
	checkSame(t, api.Node{}, empty, true)
	checkSame(t, empty, begin, false)
	for i, a := range valid() {
		for j, b := range valid() {
			checkSame(t, a, b, i == j)
		}
	}
	kids := times(4, empty)
	kids[3] = begin
	checkSame(t, concat(kids...), concat(kids[:3]...), false)
	checkSame(t, concat(concat(kids[:2]...), concat(kids[:3]...)), concat(concat(kids[:2]...), concat(kids[1:]...)), false)
	checkSame(t, concat(concat(kids[:2]...), concat(kids[:2]...)), concat(concat(kids[:2]...), concat(kids[1:3]...)), true)
	checkSame(t, concat(concat(kids[:2]...), concat(kids[:3]...)), concat(concat(kids[:2]...), concat(kids[:4]...)), false)
	checkSame(t, concat(concat(kids[:2]...), concat(kids[2:]...)), concat(concat(kids[:2]...), concat(kids[:2]...)), false)
	checkSame(t, concat(concat(kids[2:]...), concat(kids[2:]...)), concat(concat(kids[:2]...), concat(kids[:2]...)), false)
	checkSame(t, concat(concat(kids[2:]...), concat(kids[:2]...)), concat(concat(kids[:2]...), concat(kids[:2]...)), false)
	checkSame(t, concat(concat(kids[2:]...), concat(kids[2:]...)), concat(concat(kids[:2]...), concat(kids[2:]...)), false)
}

func TestSameOfDeepAndWideNodes(t *testing.T) {
	checkSame(t, wrapped(10000, one('a')), wrapped(10000, one('a')), true)
	checkSame(t, wrapped(10000, one('a')), wrapped(10000, one('b')), false)
	checkSame(t, wrapped(10000, one('a')), wrapped(10001, one('a')), false)
	wide := times(100000, one('a'))
	other := times(100000, one('a'))
	checkSame(t, concat(wide...), concat(other...), true)
	other[99999] = one('b')
	checkSame(t, concat(wide...), concat(other...), false)
}

func TestSameOfSharedKids(t *testing.T) {
	shared := func(leaf api.Node) api.Node {
		n := leaf
		for range 20 {
			n = concat(n, n)
		}
		return n
	}
	checkSame(t, shared(one('a')), shared(one('a')), true)
	checkSame(t, shared(one('a')), shared(one('b')), false)
}

// R2

func TestArgumentsAreLeft(t *testing.T) {
	kids := []api.Node{one('a'), capture("a", class('b', 'b', 'd', 'd')), end, begin}
	n := concat(kids[:2]...)
	pattern.Check(n)
	pattern.Size(n)
	pattern.Format(n)
	pattern.Same(n, concat(kids[:3]...))
	for at, want := range []api.Node{one('a'), capture("a", class('b', 'b', 'd', 'd')), end, begin} {
		if !equal(kids[at], want) {
			t.Errorf("the node %d was changed to %v", at, kids[at])
		}
	}
}

func TestResultsOfParseAreNew(t *testing.T) {
	const source = "(a:\\w)\\w[\\w][^x].|\\s{2}|(x|y)"
	first, _, _ := pattern.Parse(source)
	want, _, _ := pattern.Parse(source)
	spoil(&first)
	again, _, _ := pattern.Parse(source)
	if !equal(again, want) {
		t.Errorf("Parse(%q) = %v, want %v", source, again, want)
	}
	one, _, _ := pattern.Parse("\\w\\w")
	one.Kids[0].Ranges[0].Lo = 'x'
	if one.Kids[1].Ranges[0].Lo != '0' {
		t.Errorf("two classes share their ranges")
	}
}

// spoil changes all of a node.
func spoil(n *api.Node) {
	for i := range n.Ranges {
		n.Ranges[i] = api.Range{Lo: 7, Hi: 7}
	}
	for i := range n.Kids {
		spoil(&n.Kids[i])
		n.Kids[i].Op = 77
	}
}
