package green_test

import (
	"math"
	"math/rand"
	"slices"
	"strconv"
	"strings"
	"testing"

	"scholiast/api"
	"scholiast/green"
	"scholiast/probe"
)

// grown is a text, and a tree that fits it, as the chapters' words allow them: a row of regions.
func grown(r *rand.Rand, deep int) (string, api.Node) {
	p := &probe.Planter{R: r}
	top := api.Node{Kind: api.NFile}
	for range 1 + r.Intn(4) {
		from := p.At
		kids := p.PlantRow(probe.Grower{R: r, Blocks: true}.Region(deep))
		top.Kids = append(top.Kids, api.Node{Kind: api.NRegion, From: from, To: p.At, Kids: kids})
	}
	top.To = p.At
	// A planter's trivia may have kinds of none.
	return anyText(r, p.At, 3), proper(top)
}

// proper is a tree in which kinds that are none are a kind of trivia.
func proper(n api.Node) api.Node {
	n.Kids = slices.Clone(n.Kids)
	for i, kid := range n.Kids {
		n.Kids[i] = proper(kid)
	}
	n.Kind = max(n.Kind, api.TSpace)
	return n
}

// anyText is a text of n bytes, of so many unlike ones.
func anyText(r *rand.Rand, n, unlike int) string {
	var s strings.Builder
	for range n {
		s.WriteByte("a\x00\xff("[r.Intn(unlike)])
	}
	return s.String()
}

// anyTree is a tree of any kinds that fits a text of which it has the piece from .. to.
func anyTree(r *rand.Rand, deep, from, to int) api.Node {
	n := node([]int{api.NNone, api.NName, math.MaxInt}[r.Intn(3)], from, to)
	if deep <= 0 || r.Intn(4) == 0 || to > from && r.Intn(5) == 0 {
		n.Kind = []int{1, 10, 199}[r.Intn(3)]
		return n
	}
	for at := from; at < to || r.Intn(3) > 0; {
		end := at + r.Intn(to-at+1)
		n.Kids = append(n.Kids, anyTree(r, deep-1, at, end))
		at = end
	}
	return n
}

// spoilt is a tree in which one number is another.
func spoilt(r *rand.Rand, n api.Node) api.Node {
	n = green.Shift(n, 0)
	at := &n
	for len(at.Kids) > 0 && r.Intn(4) > 0 {
		at = &at.Kids[r.Intn(len(at.Kids))]
	}
	by := r.Intn(5) - 2
	switch r.Intn(4) {
	case 0:
		at.Kind = []int{0, -1, 10, 200, 201}[r.Intn(5)]
	case 1:
		at.From += by
	case 2:
		at.To += by
	case 3:
		at.Kids = append(at.Kids, node(200, at.To, at.To+by))
	}
	return n
}

// held is a tree of a text.
type held struct {
	s string
	n api.Node
}

// like is what the chapter says of two nodes of two texts.
func like(a, b held) bool {
	switch {
	case a.n.Kind != b.n.Kind:
		return false
	case isLeaf(a.n.Kind):
		return a.s[a.n.From:a.n.To] == b.s[b.n.From:b.n.To]
	}
	return slices.EqualFunc(a.n.Kids, b.n.Kids, func(x, y api.Node) bool { return like(held{a.s, x}, held{b.s, y}) })
}

// model is a pool that has its nodes in a list, and holds them against each other one by one.
type model struct{ nodes []held }

// put is P8.6 of a tree that fits its text.
func (m *model) put(h held) int {
	for _, kid := range h.n.Kids {
		m.put(held{h.s, kid})
	}
	id := m.find(h)
	if id < 0 {
		id = len(m.nodes)
		m.nodes = append(m.nodes, h)
	}
	return id
}

// find is the number of a tree; below 0, if it has none.
func (m *model) find(h held) int {
	return slices.IndexFunc(m.nodes, func(x held) bool { return like(x, h) })
}

// expectPut holds Put of a tree against the model, which has had the same trees put.
func expectPut(t *testing.T, p *green.Pool, m *model, h held) {
	t.Helper()
	id, e := p.Put(h.s, h.n)
	if !fits(h.s, h.n) {
		if id != 0 || e != api.ErrNode || p.Len() != len(m.nodes) {
			t.Fatalf("Put(%q, %v): %d, %d", h.s, h.n, id, e)
		}
		return
	}
	if want := m.put(h); id != want || e != api.OK {
		t.Fatalf("Put(%q, %v): %d, %d, want %d", h.s, h.n, id, e, want)
	}
	if p.Len() != len(m.nodes) {
		t.Fatalf("Put(%q, %v): %d nodes, want %d", h.s, h.n, p.Len(), len(m.nodes))
	}
	if back, e := p.Node(id, h.n.From); !probe.Same(back, h.n) || e != api.OK {
		t.Fatalf("Put(%q, %v), and Node: %v, %d", h.s, h.n, back, e)
	}
}

// expectPool holds all that a pool tells of its nodes against the model.
func expectPool(t *testing.T, p *green.Pool, m *model) {
	t.Helper()
	for id, h := range m.nodes {
		kind, e := p.Kind(id)
		width, f := p.Width(id)
		text, g := p.Text(id)
		if kind != h.n.Kind || width != h.n.To-h.n.From || text != h.s[h.n.From:h.n.To] || e != api.OK || f != api.OK || g != api.OK {
			t.Fatalf("%d: %d, %d, %d, %d, %q, %d, want %v of %q", id, kind, e, width, f, text, g, h.n, h.s)
		}
		var want []int
		for _, kid := range h.n.Kids {
			want = append(want, m.find(held{h.s, kid}))
		}
		if kids, e := p.Kids(id); !slices.Equal(kids, want) || e != api.OK {
			t.Fatalf("%d: the kids %v, %d, want %v", id, kids, e, want)
		}
		for _, at := range []int{0, h.n.From, math.MaxInt32} {
			if n, e := p.Node(id, at); !probe.Same(n, green.Shift(h.n, at-h.n.From)) || e != api.OK {
				t.Fatalf("%d at %d: %v, %d, want %v", id, at, n, e, h.n)
			}
		}
	}
}

// expectNone holds that no number that is no node's is told anything of.
func expectNone(t *testing.T, p *green.Pool) {
	t.Helper()
	for _, id := range []int{-1, p.Len(), p.Len() + 1, math.MinInt, math.MaxInt, 1 << 32} {
		kind, e := p.Kind(id)
		width, f := p.Width(id)
		kids, g := p.Kids(id)
		text, h := p.Text(id)
		if kind != 0 || width != 0 || len(kids) > 0 || text != "" || e != api.ErrNone || f != api.ErrNone || g != api.ErrNone || h != api.ErrNone {
			t.Errorf("%d: %d, %d, %d, %d, %v, %d, %q, %d", id, kind, e, width, f, kids, g, text, h)
		}
		for _, at := range []int{0, 5, -1, math.MinInt, math.MaxInt} {
			if n, e := p.Node(id, at); !probe.Same(n, api.Node{}) || e != api.ErrNone {
				t.Errorf("Node(%d, %d): %v, %d", id, at, n, e)
			}
		}
	}
}

// TestExamples: the chapter's examples, and P8.5.
func TestExamples(t *testing.T) {
	p, m := green.New(), &model{}
	if p.Len() != 0 {
		t.Error("a new pool has nodes")
	}
	expectNone(t, p)
	expectPut(t, p, m, held{"a+a", sum()})
	expectPut(t, p, m, held{"xa", node(api.NName, 1, 2, node(10, 1, 2))})
	expectPool(t, p, m)
	expectNone(t, p)
	id, e := p.Put("xa", node(api.NName, 1, 2, node(10, 1, 2)))
	if id != 1 || e != api.OK || p.Len() != 4 {
		t.Errorf("%d, %d, %d nodes", id, e, p.Len())
	}
	width, _ := p.Width(3)
	kids, _ := p.Kids(3)
	text, _ := p.Text(3)
	if width != 3 || !slices.Equal(kids, []int{1, 2, 1}) || text != "a+a" {
		t.Errorf("%d, %v, %q", width, kids, text)
	}
	if n, e := p.Node(1, 5); !probe.Same(n, node(api.NName, 5, 6, node(10, 5, 6))) || e != api.OK {
		t.Errorf("%v, %d", n, e)
	}
}

// TestNodeArgument: P8.8, places at which no tree begins.
func TestNodeArgument(t *testing.T) {
	p := green.New()
	id, _ := p.Put("a+a", sum())
	for _, at := range []int{-1, math.MinInt, math.MaxInt32 + 1, math.MaxInt, -1 << 32} {
		if n, e := p.Node(id, at); !probe.Same(n, api.Node{}) || e != api.ErrArg {
			t.Errorf("%d: %v, %d", at, n, e)
		}
	}
	for _, at := range []int{0, 1, math.MaxInt32} {
		if n, e := p.Node(id, at); !probe.Same(n, green.Shift(sum(), at)) || e != api.OK {
			t.Errorf("%d: %v, %d", at, n, e)
		}
	}
}

// TestLike: P8.6 and P8.9, which nodes have one number, and which have not.
func TestLike(t *testing.T) {
	a := node(api.NName, 0, 1, node(10, 0, 1))
	l := []held{
		{"a", a}, {"b", a}, {"a", node(api.NLit, 0, 1, node(10, 0, 1))}, {"a", node(api.NName, 0, 1, node(11, 0, 1))}, {"a", node(10, 0, 1)}, {"a", node(11, 0, 1)}, {"b", node(10, 0, 1)}, {"aa", node(10, 0, 2)}, {"a", node(10, 0, 0)}, {"a", node(199, 0, 1)}, {"a", node(199, 1, 1)},
		{"", node(200, 0, 0)}, {"", node(201, 0, 0)}, {"", node(200, 0, 0, node(200, 0, 0))}, {"", node(200, 0, 0, node(200, 0, 0), node(200, 0, 0))}, {"", node(200, 0, 0, node(200, 0, 0, node(200, 0, 0)))}, {"", node(201, 0, 0, node(200, 0, 0))}, {"", node(200, 0, 0, node(16, 0, 0))}, {"", node(16, 0, 0)}, {"", node(math.MaxInt, 0, 0)},
		{"a", node(api.NName, 0, 1, node(10, 0, 1), node(200, 1, 1))}, {"a", node(api.NName, 0, 1, node(200, 0, 0), node(10, 0, 1))}, {"a", node(api.NName, 0, 1, a)}, {"aa", node(api.NName, 0, 2, node(10, 0, 1), node(10, 1, 2))}, {"aa", node(api.NName, 0, 2, node(10, 0, 2))}, {"aa", node(api.NName, 0, 2, node(10, 0, 2), node(10, 2, 2))}, {"aa", node(api.NName, 0, 2, node(10, 0, 0), node(10, 0, 2))},
		{"ab", node(api.NName, 0, 2, node(10, 0, 1), node(10, 1, 2))}, {"ba", node(api.NName, 0, 2, node(10, 0, 1), node(10, 1, 2))}, {"\x00", node(10, 0, 1)}, {"\x00\x00", node(10, 0, 2)}, {"\xff", node(10, 0, 1)}, {"\xfe", node(10, 0, 1)},
	}
	p, m := green.New(), &model{}
	numbers := map[int]int{}
	for i, h := range l {
		expectPut(t, p, m, h)
		id, _ := p.Put(h.s, h.n)
		if other, ok := numbers[id]; ok {
			t.Errorf("%v and %v have one number", h, l[other])
		}
		numbers[id] = i
	}
	for _, h := range l {
		id, _ := p.Put(h.s, h.n)
		moved := held{"\x00b" + h.s + "a", green.Shift(h.n, 2)}
		expectPut(t, p, m, moved)
		if again, e := p.Put(moved.s, moved.n); again != id || e != api.OK {
			t.Errorf("%v: %d, moved %d", h, id, again)
		}
	}
	expectPool(t, p, m)
}

// TestHistories: P8.5 to P8.9, pools into which many trees are put, some that do not fit among them.
func TestHistories(t *testing.T) {
	r := rand.New(rand.NewSource(23))
	wrong, again := 0, 0
	for range 60 {
		p, m := green.New(), &model{}
		for range 40 {
			s := anyText(r, r.Intn(6), 1+r.Intn(4))
			from := r.Intn(len(s) + 1)
			h := held{s, anyTree(r, r.Intn(4), from, from+r.Intn(len(s)-from+1))}
			if !fits(h.s, h.n) {
				t.Fatalf("%v was to fit", h)
			}
			if r.Intn(3) == 0 {
				h.n = spoilt(r, h.n)
			}
			if !fits(h.s, h.n) {
				wrong++
			} else if m.find(h) >= 0 {
				again++
			}
			expectPut(t, p, m, h)
		}
		expectPool(t, p, m)
		expectNone(t, p)
	}
	if wrong < 200 || again < 200 {
		t.Errorf("%d did not fit, %d were there already", wrong, again)
	}
}

// TestPutWrong: P8.6, R2, a tree that does not fit leaves nothing of itself in the pool, also of what in it does.
func TestPutWrong(t *testing.T) {
	p := green.New()
	for _, h := range []held{
		{"ab", node(201, 0, 2, node(10, 0, 1), node(10, 1, 3))}, {"ab", node(201, 0, 2, node(202, 0, 1, node(10, 0, 1)), node(202, 1, 2, node(0, 1, 2)))}, {"ab", node(201, 0, 2, node(10, 0, 1))}, {"", sum()}, {"", api.Node{}}, {"ab", node(10, 0, 2, node(10, 0, 2))},
	} {
		if id, e := p.Put(h.s, h.n); id != 0 || e != api.ErrNode || p.Len() != 0 {
			t.Errorf("%v: %d, %d, %d nodes", h, id, e, p.Len())
		}
	}
	if id, e := p.Put("b", node(10, 0, 1)); id != 0 || e != api.OK || p.Len() != 1 {
		t.Errorf("behind them: %d, %d", id, e)
	}
}

// TestMany: P8.6 and P8.7, more unlike nodes than two bytes could number, side by side in one.
func TestMany(t *testing.T) {
	const n = 70000
	var s strings.Builder
	top := api.Node{Kind: api.NBad}
	for i := range n {
		from := s.Len()
		s.WriteString(strconv.Itoa(i))
		top.Kids = append(top.Kids, node(api.TInt, from, s.Len()))
	}
	top.To = s.Len()
	p := green.New()
	id, e := p.Put(s.String(), top)
	again, f := p.Put(s.String(), top)
	if id != n || again != n || e != api.OK || f != api.OK || p.Len() != n+1 {
		t.Fatalf("%d, %d, %d, %d, %d nodes", id, e, again, f, p.Len())
	}
	kids, _ := p.Kids(id)
	for i, kid := range kids {
		if kid != i {
			t.Fatalf("the kid %d is %d", i, kid)
		}
	}
	if text, _ := p.Text(id); text != s.String() || len(kids) != n {
		t.Errorf("%d bytes, %d kids", len(text), len(kids))
	}
	slices.Reverse(kids)
	if back, _ := p.Node(id, 0); !probe.Same(back, top) {
		t.Error("another tree comes back")
	}
}

// TestPoolMemory: R3, a pool keeps nothing of what is handed in, and hands out nothing that it keeps; two pools have nothing in common.
func TestPoolMemory(t *testing.T) {
	r := rand.New(rand.NewSource(24))
	p, other := green.New(), green.New()
	for range 30 {
		s, n := grown(r, 2)
		given := green.Shift(n, 0)
		before := other.Len()
		id, e := p.Put(s, n)
		if e != api.OK || !probe.Same(n, given) || other.Len() != before {
			t.Fatalf("%v: %d, and has become %v", given, e, n)
		}
		probe.Spoil([]api.Node{n})
		one, _ := p.Node(id, 0)
		two, _ := p.Node(id, 0)
		if probe.Shares([]api.Node{one}, []api.Node{two}) {
			t.Fatalf("%v: two answers share memory", given)
		}
		probe.Spoil([]api.Node{one})
		kids, _ := p.Kids(id)
		for i := range kids[:cap(kids)] {
			kids[:cap(kids)][i] = -1
		}
		if back, _ := p.Node(id, 0); !probe.Same(back, given) || !probe.Same(two, given) {
			t.Fatalf("%v has become %v", given, back)
		}
		if r.Intn(2) == 0 {
			other.Put(s, given.Kids[0])
		}
	}
}
