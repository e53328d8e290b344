package expr_test

import (
	"math"
	"math/rand"
	"slices"
	"testing"

	"scholiast/api"
	"scholiast/expr"
	"scholiast/probe"
)

// tall is a node and its height.
type tall struct {
	n      api.Node
	height int
}

// model is a reader as the chapter's words say it.
type model struct {
	first       int // the From of the first token, or 0
	left, taken []api.Tok
	row         []tall
	levels      int
	wrong       *api.Diag
}

func newModel(l []api.Tok) *model {
	m := &model{left: slices.Clone(l)}
	if len(l) > 0 {
		m.first = l[0].From
	}
	return m
}

func (m *model) here() int {
	if l := probe.Significant(m.taken); len(l) > 0 {
		return l[len(l)-1].To
	}
	if l := probe.Significant(m.left); len(l) > 0 {
		return l[0].From
	}
	return m.first
}

func (m *model) ahead(n int) int {
	if l := probe.Significant(m.left); m.wrong == nil && 0 <= n && n < len(l) {
		return l[n].Kind
	}
	return 0
}

// read has so many tokens read.
func (m *model) read(n int) {
	for _, t := range m.left[:n] {
		m.row = append(m.row, tall{n: api.Node{Kind: t.Kind, From: t.From, To: t.To}})
	}
	m.taken = append(m.taken, m.left[:n]...)
	m.left = m.left[n:]
}

func (m *model) take() {
	if m.ahead(0) != 0 {
		m.read(1 + slices.IndexFunc(m.left, func(t api.Tok) bool { return !probe.IsTrivia(t.Kind) }))
	}
}

func (m *model) expect(kind int) bool {
	if m.ahead(0) == kind && kind != 0 {
		m.take()
		return true
	}
	m.fail(api.DSyntax)
	return false
}

// put puts an NNone into the row.
func (m *model) put(mark, at int) {
	m.row = slices.Insert(m.row, mark, tall{n: api.Node{Kind: api.NNone, From: at, To: at}})
}

func (m *model) none() {
	if m.wrong == nil {
		m.put(len(m.row), m.here())
	}
}

// mark is what a mark counts as.
func (m *model) mark(n int) int {
	if n < 0 {
		return 0
	}
	if n > len(m.row) {
		return len(m.row)
	}
	return n
}

func (m *model) close(mark, kind int) {
	if m.wrong != nil {
		return
	}
	mark = m.mark(mark)
	for mark < len(m.row) && probe.IsTrivia(m.row[mark].n.Kind) {
		mark++
	}
	kids := m.row[mark:]
	made := tall{n: api.Node{Kind: kind, From: m.here(), To: m.here()}, height: 1}
	if len(kids) > 0 {
		made.n.From, made.n.To = kids[0].n.From, kids[len(kids)-1].n.To
	}
	for _, kid := range kids {
		made.n.Kids = append(made.n.Kids, kid.n)
		made.height = max(made.height, 1+kid.height)
	}
	m.row = append(slices.Clone(m.row[:mark]), made)
	if made.height > api.MaxDepth {
		m.fail(api.DDepth)
	}
}

func (m *model) gap(mark int) {
	if m.wrong != nil {
		return
	}
	mark = m.mark(mark)
	at := m.here()
	for _, b := range slices.Backward(m.row[mark:]) {
		if !probe.IsTrivia(b.n.Kind) {
			at = b.n.From
		}
	}
	for _, b := range m.row[:mark] {
		if !probe.IsTrivia(b.n.Kind) {
			at = b.n.To
		}
	}
	m.put(mark, at)
}

func (m *model) last() int {
	if m.wrong != nil || len(m.row) == 0 {
		return 0
	}
	return m.row[len(m.row)-1].n.Kind
}

func (m *model) down() bool {
	if m.wrong == nil && m.levels == api.MaxDepth {
		m.fail(api.DDepth)
	}
	if m.wrong == nil {
		m.levels++
	}
	return m.wrong == nil
}

func (m *model) up() {
	if m.levels > 0 {
		m.levels--
	}
}

func (m *model) fail(code int) {
	if m.wrong != nil {
		return
	}
	m.wrong = &api.Diag{Code: code, From: m.here(), To: m.here()}
	if l := probe.Significant(m.left); len(l) > 0 {
		m.wrong.From, m.wrong.To = l[0].From, l[0].To
	}
}

func (m *model) failed() (api.Diag, bool) {
	if m.wrong != nil {
		return *m.wrong, true
	}
	return api.Diag{}, false
}

func (m *model) done() ([]api.Node, api.Diag, bool) {
	if m.ahead(0) != 0 {
		m.fail(api.DSyntax)
	}
	if m.wrong != nil {
		return nil, *m.wrong, false
	}
	m.read(len(m.left))
	var row []api.Node
	for _, b := range m.row {
		row = append(row, b.n)
	}
	return row, api.Diag{}, true
}

// pair is a reader, and what it is to be; what was done to both so far is kept for what is told of a fault.
type pair struct {
	t     *testing.T
	l     []api.Tok
	r     *expr.Reader
	m     *model
	calls []any
}

func newPair(t *testing.T, l []api.Tok) *pair {
	p := &pair{t: t, l: slices.Clone(l), r: expr.NewReader(l), m: newModel(l)}
	p.hold()
	return p
}

// is holds an answer against what it is to be.
func (p *pair) is(ok bool, what string) {
	p.t.Helper()
	if !ok {
		p.t.Fatalf("%v: %v: %s is wrong", p.l, p.calls, what)
	}
}

// hold holds all that a reader tells without changing.
func (p *pair) hold() {
	p.t.Helper()
	p.is(p.r.Kind() == p.m.ahead(0), "Kind")
	for _, n := range []int{math.MinInt, -1, 0, 1, 2, 3, 9, math.MaxInt} {
		p.is(p.r.Ahead(n) == p.m.ahead(n), "Ahead")
	}
	d, failed := p.r.Failed()
	want, wantFailed := p.m.failed()
	p.is(d == want && failed == wantFailed, "Failed")
	p.is(p.r.Last() == p.m.last(), "Last")
	p.is(p.r.Mark() == len(p.m.row), "Mark")
}

// do calls both; n and kind are handed in where a call asks for them.
func (p *pair) do(call string, n, kind int) {
	p.t.Helper()
	p.calls = append(p.calls, call, n, kind)
	switch call {
	case "Take":
		p.r.Take()
		p.m.take()
	case "Expect":
		p.is(p.r.Expect(kind) == p.m.expect(kind), call)
	case "None":
		p.r.None()
		p.m.none()
	case "Close":
		p.r.Close(n, kind)
		p.m.close(n, kind)
	case "Gap":
		p.r.Gap(n)
		p.m.gap(n)
	case "Down":
		p.is(p.r.Down() == p.m.down(), call)
	case "Up":
		p.r.Up()
		p.m.up()
	case "Fail":
		p.r.Fail(kind)
		p.m.fail(kind)
	case "Done":
		row, d, ok := p.r.Done()
		wantRow, want, wantOK := p.m.done()
		p.is(slices.EqualFunc(row, wantRow, probe.Same) && d == want && ok == wantOK, call)
		probe.Spoil(row)
	}
	p.hold()
}

// someKinds are kinds of tokens and of nodes, and numbers that are none.
var someKinds = []int{math.MinInt, -1, 0, api.TSpace, api.TBad, 9, api.TIdent, api.TAuto, api.TComma, api.TRparen, api.TVar, api.NNone, api.NName, api.NParen, api.NFile, 1000, math.MaxInt}

// someTokens are some tokens, of any kinds and places.
func someTokens(r *rand.Rand, most int) []api.Tok {
	l := make([]api.Tok, r.Intn(most+1))
	at := r.Intn(3)
	for i := range l {
		kind := someKinds[r.Intn(len(someKinds))]
		if r.Intn(2) == 0 {
			kind = []int{api.TSpace, api.TIdent}[r.Intn(2)]
		}
		l[i] = api.Tok{Kind: kind, From: at, To: at + r.Intn(4)}
		at = l[i].To
		if r.Intn(20) == 0 {
			l[i].From, l[i].To = math.MaxInt-r.Intn(2), math.MinInt+r.Intn(2)
		}
	}
	return l
}

// TestReader: P5.1 to P5.6, any calls in any order, held against the model; what the answers of Done are written over with changes nothing.
func TestReader(t *testing.T) {
	calls := []string{"Take", "Take", "Take", "Expect", "None", "Close", "Close", "Gap", "Down", "Up", "Fail", "Done"}
	r := rand.New(rand.NewSource(5))
	for range 60000 {
		p := newPair(t, someTokens(r, 6))
		for range r.Intn(14) {
			call := calls[r.Intn(len(calls))]
			n, kind := r.Intn(7)-1, someKinds[r.Intn(len(someKinds))]
			switch {
			case call == "Fail" && r.Intn(4) > 0, call == "Done" && r.Intn(2) > 0:
				call = "Take"
			case call == "Expect" && r.Intn(4) > 0:
				kind = p.m.ahead(0)
			}
			if r.Intn(30) == 0 {
				n = []int{math.MinInt, math.MaxInt}[r.Intn(2)]
			}
			p.do(call, n, kind)
		}
		p.do("Done", 0, 0)
		p.do("Done", 0, 0)
	}
}

// TestReaderEdges: P5.1 to P5.6, the edges that the chapter names: where an NNone, a node without kids, and a failure stand.
func TestReaderEdges(t *testing.T) {
	blank := func(from, to int) api.Tok { return api.Tok{Kind: api.TSpace, From: from, To: to} }
	name := func(from, to int) api.Tok { return api.Tok{Kind: api.TIdent, From: from, To: to} }
	for _, c := range []struct {
		l    []api.Tok
		here []int // behind none, one, two Takes
	}{
		{nil, []int{0, 0}}, {[]api.Tok{blank(3, 5)}, []int{3, 3}}, {[]api.Tok{blank(3, 5), blank(5, 7)}, []int{3}}, {[]api.Tok{name(3, 5)}, []int{3, 5, 5}}, {[]api.Tok{blank(3, 5), name(5, 8)}, []int{5, 8}}, {[]api.Tok{name(3, 5), blank(5, 7)}, []int{3, 5, 5}}, {[]api.Tok{blank(1, 2), name(2, 4), blank(4, 6), name(6, 9), blank(9, 10)}, []int{2, 4, 9}},
	} {
		for takes, here := range c.here {
			for _, call := range []string{"None", "Close", "Gap", "Fail"} {
				p := newPair(t, c.l)
				for range takes {
					p.do("Take", 0, 0)
				}
				if got := p.m.here(); got != here {
					t.Fatalf("%v: behind %d tokens %d, want %d", c.l, takes, got, here)
				}
				p.do(call, p.m.mark(9), api.DSyntax)
				p.do("Done", 0, 0)
			}
		}
	}
}

// TestExpect: P5.2, a kind 0 never comes, though nothing comes, too.
func TestExpect(t *testing.T) {
	for _, l := range [][]api.Tok{nil, {{Kind: 0, To: 1}}, {{Kind: api.TIdent, To: 1}}} {
		r := expr.NewReader(l)
		if r.Expect(0) {
			t.Errorf("%v: Expect(0) holds", l)
		}
		if d, failed := r.Failed(); d.Code != api.DSyntax || !failed {
			t.Errorf("%v: %v, %v", l, d, failed)
		}
	}
}

// TestGap: P5.3, at the end of the significant node ahead, though trivia stand between; else where the first one behind begins.
func TestGap(t *testing.T) {
	for _, c := range []struct {
		mark, index, at int
	}{{-1, 0, 1}, {0, 0, 1}, {1, 1, 1}, {2, 2, 2}, {3, 3, 2}, {4, 4, 4}, {5, 4, 4}} {
		r := expr.NewReader(probe.Tokens(" a b"))
		r.Name()
		r.Take()
		r.Gap(c.mark)
		row, _, _ := r.Done()
		want := api.Node{Kind: api.NNone, From: c.at, To: c.at}
		if len(row) != 5 || !probe.Same(row[c.index], want) {
			t.Errorf("Gap(%d): %v, want %v at %d", c.mark, row, want, c.index)
		}
	}
}

// TestHeights: P5.3, nodes up to MaxDepth high, of whatever kind; and one that is higher.
func TestHeights(t *testing.T) {
	for _, kind := range []int{api.NName, api.NNone, api.TIdent, 0} {
		for _, start := range []string{"Take", "None", ""} {
			p := newPair(t, probe.Tokens(" a b"))
			if start != "" {
				p.do(start, 0, 0)
			}
			for range api.MaxDepth {
				p.do("Close", 0, kind)
			}
			if _, failed := p.r.Failed(); failed {
				t.Fatalf("kind %d: a height of %d fails", kind, api.MaxDepth)
			}
			p.do("Close", 0, kind)
			// Trivia have no kids: a node of kind 0 stays as it is, and one more comes behind it.
			if d, _ := p.r.Failed(); (d.Code == api.DDepth) != (kind != 0) {
				t.Fatalf("kind %d: a height of %d: %v", kind, api.MaxDepth+1, d)
			}
			p.do("Done", 0, 0)
		}
	}
}

// TestLevels: P5.4, MaxDepth levels, and one more; Up at none.
func TestLevels(t *testing.T) {
	p := newPair(t, probe.Tokens("a b"))
	p.do("Up", 0, 0)
	for range api.MaxDepth {
		p.do("Down", 0, 0)
	}
	p.do("Take", 0, 0)
	p.do("Up", 0, 0)
	p.do("Down", 0, 0)
	if d, failed := p.r.Failed(); failed {
		t.Fatalf("%d levels: %v", api.MaxDepth, d)
	}
	p.do("Down", 0, 0)
	if d, _ := p.r.Failed(); d != (api.Diag{Code: api.DDepth, From: 2, To: 3}) {
		t.Fatalf("%d levels: %v", api.MaxDepth+1, d)
	}
	p.do("Up", 0, 0)
	p.do("Down", 0, 0)
}

// TestMemory: R3, what a reader was given is neither changed nor kept, nor what lies behind it; two readers have nothing in common.
func TestMemory(t *testing.T) {
	l := probe.Tokens("f(a, func(b, c d) { e }) [1")
	short := len(l) - 2
	given := slices.Clone(l)
	want, _, _ := expr.Parse(slices.Clone(l[:short]))
	one, two := expr.NewReader(l[:short]), expr.NewReader(l[:short])
	one.X(false)
	for i := range l {
		l[i] = api.Tok{Kind: api.TRparen, From: -1, To: -1}
	}
	two.X(false)
	first, _, _ := one.Done()
	probe.Spoil(first)
	for _, r := range []*expr.Reader{one, two} {
		if row, d, ok := r.Done(); !ok || len(row) != 2 || !probe.Same(row[0], want) {
			t.Errorf("%v, %v", row, d)
		}
	}
	if row, _, _ := two.Done(); probe.Shares(row) {
		t.Error("lists of one answer share memory")
	}
	copy(l, given)
	n, _, _ := expr.Parse(l[:short])
	probe.Spoil([]api.Node{n})
	if !slices.Equal(l, given) {
		t.Errorf("the tokens have become %v", l)
	}
}
