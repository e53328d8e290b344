package green_test

import (
	"math"
	"math/rand"
	"slices"
	"strings"
	"testing"

	"scholiast/api"
	"scholiast/green"
	"scholiast/probe"
)

// node makes a node of a kind, a place and kids.
func node(kind, from, to int, kids ...api.Node) api.Node {
	return api.Node{Kind: kind, From: from, To: to, Kids: kids}
}

// isLeaf is what the chapter calls a leaf.
func isLeaf(kind int) bool { return kind >= 1 && kind <= 199 }

// all are a node and all nodes below it.
func all(n api.Node) []api.Node {
	l := []api.Node{n}
	for _, kid := range n.Kids {
		l = append(l, all(kid)...)
	}
	return l
}

// fits is P8.1, worked out by where nodes begin and end: where one ends the next begins, from the node's own beginning to its end.
func fits(s string, n api.Node) bool {
	for _, n := range all(n) {
		ends, begins := []int{n.From}, []int{}
		for _, kid := range n.Kids {
			begins, ends = append(begins, kid.From), append(ends, kid.To)
		}
		begins = append(begins, n.To)
		isInText := 0 <= n.From && n.From <= n.To && n.To <= len(s)
		if n.Kind <= 0 || !isInText || isLeaf(n.Kind) && len(n.Kids) > 0 || !isLeaf(n.Kind) && !slices.Equal(ends, begins) {
			return false
		}
	}
	return true
}

// expectCheck holds Check against what it is to tell.
func expectCheck(t *testing.T, s string, n api.Node) {
	t.Helper()
	want := api.ErrNode
	if fits(s, n) {
		want = api.OK
	}
	if got := green.Check(s, n); got != want {
		t.Fatalf("Check(%q, %v): %d, want %d", s, n, got, want)
	}
}

// sum is the tree of a+a, that of the chapter's examples.
func sum() api.Node {
	return node(api.NBinary, 0, 3, node(api.NName, 0, 1, node(api.TIdent, 0, 1)), node(api.TAdd, 1, 2), node(api.NName, 2, 3, node(api.TIdent, 2, 3)))
}

// TestCheck: P8.1, trees that fit, and trees that do not, for each of its reasons.
func TestCheck(t *testing.T) {
	for _, n := range []api.Node{
		sum(), node(1, 0, 0), node(199, 0, 3), node(199, 3, 3), node(api.TAuto, 2, 2), node(api.NNone, 1, 1), node(200, 3, 3), node(math.MaxInt, 0, 0), node(100, 1, 2),
		node(200, 0, 2, node(1, 0, 1), node(199, 1, 2)), node(300, 1, 3, node(api.NNone, 1, 1), node(10, 1, 3), node(api.NNone, 3, 3)), node(201, 1, 1, node(16, 1, 1), node(240, 1, 1, node(241, 1, 1))),
	} {
		if e := green.Check("a+a", n); e != api.OK || !fits("a+a", n) {
			t.Errorf("%v: %d", n, e)
		}
	}
	for _, n := range []api.Node{
		node(0, 0, 0), node(-1, 0, 0), node(math.MinInt, 0, 0), {}, node(0, 0, 1, node(10, 0, 1)),
		node(10, -1, 0), node(10, 2, 1), node(10, 3, 4), node(10, 4, 4), node(api.NNone, 4, 4), node(10, math.MinInt, math.MaxInt), node(10, 0, math.MaxInt), node(10, math.MinInt, 0),
		node(10, 0, 1, node(10, 0, 1)), node(10, 1, 1, node(api.NNone, 1, 1)), node(199, 0, 1, node(201, 0, 1, node(10, 0, 1))),
		node(200, 0, 1), node(201, 0, 3), node(math.MaxInt, 2, 3),
		node(201, 0, 2, node(10, 0, 1)), node(201, 0, 2, node(10, 1, 2)), node(201, 0, 1, node(10, 0, 2)), node(201, 1, 2, node(10, 0, 2)), node(201, 1, 1, node(10, 2, 2)),
		node(201, 0, 3, node(10, 0, 1), node(10, 2, 3)), node(201, 0, 3, node(10, 0, 2), node(10, 1, 3)), node(201, 0, 2, node(10, 1, 2), node(10, 0, 1)),
		node(201, 0, 2, node(201, 0, 2, node(10, 0, 1))), node(201, 0, 1, node(0, 0, 1)), node(201, 0, 1, node(-201, 0, 1, node(10, 0, 1))), node(201, 0, 1, node(202, 0, 1)), node(201, 0, 4, node(10, 0, 4)),
		node(201, 0, 1, node(10, 0, 1), node(201, 1, 1, node(10, 1, 1, node(10, 1, 1)))), node(201, 2, 1, node(10, 2, 1)), node(201, 0, 1, node(10, 0, 2), node(10, 2, 1)),
	} {
		if e := green.Check("a+a", n); e != api.ErrNode || fits("a+a", n) {
			t.Errorf("%v: %d", n, e)
		}
	}
	if e := green.Check("ab", node(api.NName, 0, 2, node(10, 0, 1))); e != api.ErrNode {
		t.Errorf("the chapter's example: %d", e)
	}
}

// pieces are all nodes without kids of some kinds and places.
func pieces(kinds []int, from, to int) []api.Node {
	var l []api.Node
	for _, kind := range kinds {
		for a := from; a <= to; a++ {
			for b := from; b <= to; b++ {
				l = append(l, node(kind, a, b))
			}
		}
	}
	return l
}

// small calls f with all trees of one node, and of one with a kid, with two, and with one that has one itself, of places about a text of a byte.
func small(f func(n api.Node)) {
	few := pieces([]int{0, 1, 200}, -1, 2)
	for _, n := range pieces([]int{-1, 0, 1, 10, 199, 200, 201, 300}, -1, 2) {
		f(n)
	}
	for _, top := range pieces([]int{199, 200}, -1, 2) {
		for _, a := range few {
			top.Kids = []api.Node{a}
			f(top)
			for _, b := range few {
				top.Kids = []api.Node{a, b}
				f(top)
				a.Kids = []api.Node{b}
				top.Kids = []api.Node{a}
				f(top)
				a.Kids = nil
			}
		}
	}
}

// TestCheckAll: P8.1, at all small trees.
func TestCheckAll(t *testing.T) {
	held := 0
	small(func(n api.Node) {
		expectCheck(t, "x", n)
		expectCheck(t, "", n)
		if fits("x", n) {
			held++
		}
	})
	if held < 30 {
		t.Errorf("%d trees fit", held)
	}
}

// tokens are what Leaves is to give: those of the leaves that stand below no other leaf.
func tokens(n api.Node) []api.Tok {
	if isLeaf(n.Kind) {
		return []api.Tok{{Kind: n.Kind, From: n.From, To: n.To}}
	}
	var l []api.Tok
	for _, kid := range n.Kids {
		l = append(l, tokens(kid)...)
	}
	return l
}

// expectLeaves holds what Leaves gives.
func expectLeaves(t *testing.T, n api.Node, want []api.Tok) {
	t.Helper()
	if got := slices.Collect(green.Leaves(n)); !slices.Equal(got, want) {
		t.Fatalf("the leaves of %v: %v, want %v", n, got, want)
	}
}

// TestLeaves: P8.2, from left to right, the node itself if it is one; whatever the tree is.
func TestLeaves(t *testing.T) {
	expectLeaves(t, sum(), []api.Tok{{Kind: 10, From: 0, To: 1}, {Kind: 20, From: 1, To: 2}, {Kind: 10, From: 2, To: 3}})
	expectLeaves(t, node(10, 3, 5), []api.Tok{{Kind: 10, From: 3, To: 5}})
	expectLeaves(t, node(1, 5, -3), []api.Tok{{Kind: 1, From: 5, To: -3}})
	expectLeaves(t, node(199, 0, 0), []api.Tok{{Kind: 199}})
	expectLeaves(t, node(199, 0, 9, node(10, 0, 4), node(201, 4, 9, node(10, 4, 9))), []api.Tok{{Kind: 199, To: 9}})
	expectLeaves(t, node(201, 0, 2, node(10, 0, 1, node(11, 0, 1)), node(12, 1, 2)), []api.Tok{{Kind: 10, To: 1}, {Kind: 12, From: 1, To: 2}})
	for _, kind := range []int{math.MinInt, -1, 0, 200, 275, math.MaxInt} {
		expectLeaves(t, node(kind, 0, 4), nil)
		expectLeaves(t, node(kind, 0, 4, node(kind, 7, 7), node(5, 2, 1), node(kind, 0, 0, node(kind, 1, 1, node(16, 3, 3)), node(6, 9, 9))), []api.Tok{{Kind: 5, From: 2, To: 1}, {Kind: 16, From: 3, To: 3}, {Kind: 6, From: 9, To: 9}})
	}
	small(func(n api.Node) { expectLeaves(t, n, tokens(n)) })
}

// TestLeavesRanged: P8.2 and R6, leaves are ranged over as often as one likes, left early, and within themselves; they are those that there were when Leaves was called.
func TestLeavesRanged(t *testing.T) {
	n := sum()
	want := tokens(n)
	leaves := green.Leaves(n)
	probe.Spoil([]api.Node{n})
	for stop := range 5 {
		var got []api.Tok
		for tok := range leaves {
			if len(got) == stop {
				break
			}
			got = append(got, tok)
		}
		if !slices.Equal(got, want[:min(stop, len(want))]) {
			t.Errorf("left behind %d: %v", stop, got)
		}
	}
	var outer []api.Tok
	for tok := range leaves {
		outer = append(outer, tok)
		if got := slices.Collect(leaves); !slices.Equal(got, want) {
			t.Errorf("within itself: %v", got)
		}
	}
	if !slices.Equal(outer, want) {
		t.Errorf("around itself: %v", outer)
	}
	for _, n := range []api.Node{{}, node(api.NNone, 0, 0), node(10, 0, 1)} {
		leaves := green.Leaves(n)
		if leaves == nil {
			t.Fatalf("%v: nil", n)
		}
		for range leaves {
			break
		}
	}
}

// expectFind holds Find against P8.3: of no kid ahead of the way, and of none behind its end, it may be said that it holds the piece.
func expectFind(t *testing.T, n api.Node, from, to int) {
	t.Helper()
	holds := func(n api.Node) bool { return from >= n.From && to >= from && n.To >= to }
	way, ok := green.Find(n, from, to)
	if ok != holds(n) || !ok && len(way) > 0 {
		t.Fatalf("Find(%v, %d, %d): %v, %v", n, from, to, way, ok)
	}
	at := n
	for _, i := range way {
		if i < 0 || i >= len(at.Kids) || slices.ContainsFunc(at.Kids[:i], holds) || !holds(at.Kids[i]) {
			t.Fatalf("Find(%v, %d, %d): %v", n, from, to, way)
		}
		at = at.Kids[i]
	}
	if ok && slices.ContainsFunc(at.Kids, holds) {
		t.Fatalf("Find(%v, %d, %d): %v, which goes on", n, from, to, way)
	}
}

// TestFind: P8.3, the chapter's examples, and pieces at the borders.
func TestFind(t *testing.T) {
	for _, c := range []struct {
		from, to int
		way      []int
		ok       bool
	}{
		{2, 3, []int{2, 0}, true}, {0, 2, nil, true}, {1, 1, []int{0, 0}, true}, {3, 9, nil, false},
		{0, 3, nil, true}, {0, 0, []int{0, 0}, true}, {0, 1, []int{0, 0}, true}, {1, 2, []int{1}, true}, {2, 2, []int{1}, true}, {3, 3, []int{2, 0}, true}, {1, 3, nil, true},
		{-1, 0, nil, false}, {-1, -1, nil, false}, {4, 4, nil, false}, {2, 1, nil, false}, {0, 4, nil, false}, {math.MinInt, math.MaxInt, nil, false}, {math.MaxInt, math.MinInt, nil, false},
	} {
		if way, ok := green.Find(sum(), c.from, c.to); !slices.Equal(way, c.way) || ok != c.ok {
			t.Errorf("%d, %d: %v, %v, want %v, %v", c.from, c.to, way, ok, c.way, c.ok)
		}
	}
	// What has no bytes holds the piece of its own place; the first of several is told; a way goes on below a leaf, too.
	n := node(201, 0, 2, node(200, 0, 0), node(10, 0, 1), node(200, 1, 1), node(10, 1, 2, node(11, 1, 2)), node(200, 2, 2))
	for _, c := range []struct {
		from, to int
		way      []int
	}{{0, 0, []int{0}}, {1, 1, []int{1}}, {2, 2, []int{3, 0}}, {1, 2, []int{3, 0}}, {0, 1, []int{1}}} {
		if way, ok := green.Find(n, c.from, c.to); !slices.Equal(way, c.way) || !ok {
			t.Errorf("%d, %d: %v, %v, want %v", c.from, c.to, way, ok, c.way)
		}
	}
}

// TestFindAll: P8.3, at all small trees, and at grown ones.
func TestFindAll(t *testing.T) {
	small(func(n api.Node) {
		for from := -1; from <= 2; from++ {
			for to := -1; to <= 2; to++ {
				expectFind(t, n, from, to)
			}
		}
	})
	r := rand.New(rand.NewSource(21))
	longest := 0
	for range 300 {
		s, n := grown(r, 3)
		for range 50 {
			from := r.Intn(len(s)+3) - 1
			to := from + r.Intn(4) - 1
			expectFind(t, n, from, to)
			way, _ := green.Find(n, from, to)
			longest = max(longest, len(way))
		}
	}
	if longest < 10 {
		t.Errorf("the longest way has %d steps", longest)
	}
}

// TestParts: P8.4, the kids that are no leaves, in their order, with all below them.
func TestParts(t *testing.T) {
	low, high := node(200, 5, 2), node(math.MaxInt, -7, 0, node(10, 1, 1), node(-3, 0, 0, node(201, 9, 9)))
	for _, c := range []struct{ n, want api.Node }{
		{sum(), node(0, 0, 0, sum().Kids[0], sum().Kids[2])}, {node(201, 0, 0), node(0, 0, 0)}, {node(10, 0, 1), node(0, 0, 0)},
		{node(201, 0, 0, high, node(199, 0, 0, low), low, node(1, 0, 0), node(0, 0, 0, low), high, node(-200, 0, 0), low), node(0, 0, 0, high, low, high, low)},
		{node(10, 0, 0, low), node(0, 0, 0, low)}, {node(0, 0, 0, high), node(0, 0, 0, high)}, {node(-5, 0, 0, node(199, 0, 0)), node(0, 0, 0)},
	} {
		if got := green.Parts(c.n); !slices.EqualFunc(got, c.want.Kids, probe.Same) {
			t.Errorf("%v: %v, want %v", c.n, got, c.want.Kids)
		}
	}
}

// TestShift: P8.4, all places of a tree move, whatever they are; ints wrap round.
func TestShift(t *testing.T) {
	n := node(201, 0, 3, node(10, -4, 9, node(0, 2, 2)), node(-5, math.MaxInt, math.MinInt))
	for _, c := range []struct {
		by   int
		want api.Node
	}{
		{0, n},
		{5, node(201, 5, 8, node(10, 1, 14, node(0, 7, 7)), node(-5, math.MinInt+4, math.MinInt+5))},
		{-1, node(201, -1, 2, node(10, -5, 8, node(0, 1, 1)), node(-5, math.MaxInt-1, math.MaxInt))},
		{math.MaxInt, node(201, math.MaxInt, math.MinInt+2, node(10, math.MaxInt-4, math.MinInt+8, node(0, math.MinInt+1, math.MinInt+1)), node(-5, -2, -1))},
		{math.MinInt, node(201, math.MinInt, math.MinInt+3, node(10, math.MaxInt-3, math.MinInt+9, node(0, math.MinInt+2, math.MinInt+2)), node(-5, -1, 0))},
	} {
		if got := green.Shift(n, c.by); !probe.Same(got, c.want) {
			t.Errorf("by %d: %v, want %v", c.by, got, c.want)
		}
		if back := green.Shift(green.Shift(n, c.by), -c.by); !probe.Same(back, n) {
			t.Errorf("by %d and back: %v", c.by, back)
		}
	}
}

// changed are trees that are not like n in one thing.
func changed(n api.Node) []api.Node {
	with := func(f func(m *api.Node)) api.Node {
		m := n
		m.Kids = slices.Clone(n.Kids)
		f(&m)
		return m
	}
	l := []api.Node{
		with(func(m *api.Node) { m.Kind++ }), with(func(m *api.Node) { m.From-- }), with(func(m *api.Node) { m.To++ }),
		with(func(m *api.Node) { m.Kids = append(m.Kids, api.Node{}) }),
	}
	if len(n.Kids) > 0 {
		l = append(l, with(func(m *api.Node) { m.Kids = m.Kids[1:] }), with(func(m *api.Node) { m.Kids = m.Kids[:len(m.Kids)-1] }))
	}
	if len(n.Kids) > 1 && !probe.Same(n.Kids[0], n.Kids[1]) {
		l = append(l, with(func(m *api.Node) { m.Kids[0], m.Kids[1] = m.Kids[1], m.Kids[0] }))
	}
	for i, kid := range n.Kids {
		for _, other := range changed(kid) {
			l = append(l, with(func(m *api.Node) { m.Kids[i] = other }))
		}
	}
	return l
}

// TestSame: P8.4, trees are the same, or not by whatever one thing.
func TestSame(t *testing.T) {
	bare, empty := node(201, 1, 2), node(201, 1, 2)
	bare.Kids, empty.Kids = nil, make([]api.Node, 0, 3)
	if !green.Same(bare, empty) || !green.Same(empty, bare) || !green.Same(api.Node{}, api.Node{}) {
		t.Error("trees without kids")
	}
	for _, n := range []api.Node{{}, sum(), node(10, 0, 1, node(10, 0, 1)), node(-1, 5, -5, node(0, 0, 0, node(300, 1, 1)), node(2, 2, 2))} {
		if !green.Same(n, green.Shift(n, 0)) {
			t.Errorf("%v is not the same as itself", n)
		}
		for _, other := range changed(n) {
			if green.Same(n, other) || green.Same(other, n) {
				t.Errorf("%v is the same as %v", n, other)
			}
		}
	}
}

// TestTreesMemory: R3, trees that are handed in are neither changed nor kept, and no two lists of an answer share memory.
func TestTreesMemory(t *testing.T) {
	r := rand.New(rand.NewSource(22))
	for range 50 {
		s, n := grown(r, 2)
		given := green.Shift(n, 0)
		parts, moved := green.Parts(n), green.Shift(n, 4)
		green.Check(s, n)
		green.Find(n, 0, 1)
		green.Leaves(n)
		if !probe.Same(n, given) {
			t.Fatalf("%v has become %v", given, n)
		}
		if probe.Shares([]api.Node{n}, []api.Node{given}, []api.Node{moved}, parts, green.Parts(n)) {
			t.Fatalf("%v: answers share memory", n)
		}
		way, _ := green.Find(given, 0, 0)
		spoilt, _ := green.Find(given, 0, 0)
		for i := range spoilt[:cap(spoilt)] {
			spoilt[:cap(spoilt)][i] = -1
		}
		probe.Spoil([]api.Node{n})
		if !slices.EqualFunc(parts, green.Parts(given), probe.Same) || !probe.Same(moved, green.Shift(given, 4)) || slices.Contains(way, -1) {
			t.Fatalf("%v: answers have changed", given)
		}
	}
}

// chain is a text, and a tree of it of so many nodes in one another, with a leaf ahead of every so manieth one.
func chain(n, every int) (string, api.Node) {
	width := n / every
	tree := node(api.NParen, width, width)
	for i := 1; i < n; i++ {
		kids := []api.Node{tree}
		from := tree.From
		if i%every == 0 {
			from--
			kids = []api.Node{node(api.TLparen, from, from+1), tree}
		}
		tree = node(api.NParen, from, width, kids...)
	}
	return strings.Repeat("(", width), tree
}

// TestDeep: R1, trees of as many nodes in one another as may be.
func TestDeep(t *testing.T) {
	s, n := chain(1<<16, 1<<12)
	if e := green.Check(s, n); e != api.OK {
		t.Fatal(e)
	}
	if e := green.Check(s[1:], n); e != api.ErrNode {
		t.Fatal(e)
	}
	leaves := slices.Collect(green.Leaves(n))
	way, ok := green.Find(n, len(s), len(s))
	if len(leaves) != 15 || leaves[14].To != len(s) || len(way) == 0 || !ok {
		t.Errorf("%v, %d, %v", leaves, len(way), ok)
	}
	if m := green.Shift(n, 7); !green.Same(green.Shift(m, -7), n) || green.Same(m, n) {
		t.Error("shifted")
	}
	if parts := green.Parts(n); len(parts) != 1 || !green.Same(parts[0], n.Kids[len(n.Kids)-1]) {
		t.Error("parts")
	}
	p := green.New()
	id, e := p.Put(s, n)
	text, f := p.Text(id)
	m, g := p.Node(id, n.From)
	if e != api.OK || f != api.OK || g != api.OK || text != s[n.From:] || !green.Same(m, n) {
		t.Errorf("%d, %d, %d, %q", e, f, g, text)
	}
}
