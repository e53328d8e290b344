package green_test

import (
	"math/rand"
	"slices"
	"strings"
	"testing"

	"scholiast/api"
	"scholiast/chunk"
	"scholiast/decl"
	"scholiast/green"
	"scholiast/lexer"
)

// expectTree holds P8.9 of a tree that fits, and its leaves.
func expectTree(t *testing.T, p *green.Pool, s string, n api.Node) int {
	t.Helper()
	if e := green.Check(s, n); e != api.OK {
		t.Fatalf("Check(%q, %v): %d", s, n, e)
	}
	id, e := p.Put(s, n)
	back, f := p.Node(id, n.From)
	if e != api.OK || f != api.OK || !green.Same(back, n) {
		t.Fatalf("%q: %v comes back as %v: %d, %d", s, n, back, e, f)
	}
	var bytes strings.Builder
	for tok := range green.Leaves(n) {
		bytes.WriteString(s[tok.From:tok.To])
	}
	if text, _ := p.Text(id); text != s[n.From:n.To] || text != bytes.String() {
		t.Fatalf("%v: the bytes %q, of its leaves %q, want %q", n, text, bytes.String(), s[n.From:n.To])
	}
	return id
}

// expectWidths holds P8.9, that the widths of a node's kids add up to its own; and that what is below a node has a lower number (P8.6).
func expectWidths(t *testing.T, p *green.Pool) {
	t.Helper()
	for id := range p.Len() {
		kind, _ := p.Kind(id)
		kids, _ := p.Kids(id)
		want, _ := p.Width(id)
		sum := 0
		for _, kid := range kids {
			width, e := p.Width(kid)
			if e != api.OK || kid >= id {
				t.Fatalf("%d has the kid %d: %d", id, kid, e)
			}
			sum += width
		}
		if isLeaf(kind) && len(kids) > 0 || !isLeaf(kind) && sum != want {
			t.Fatalf("%d has %d bytes, its kids %d", id, want, sum)
		}
	}
}

// TestGrown: P8.1, P8.2 and P8.9, trees of all kinds of nodes.
func TestGrown(t *testing.T) {
	r := rand.New(rand.NewSource(25))
	p := green.New()
	for range 1500 {
		s, n := grown(r, r.Intn(4))
		expectTree(t, p, s, n)
		expectLeaves(t, n, tokens(n))
		if !fits(s, n) {
			t.Fatalf("%v does not fit", n)
		}
		wrong := spoilt(r, n)
		expectCheck(t, s, wrong)
		expectLeaves(t, wrong, tokens(wrong))
	}
	expectWidths(t, p)
}

// file is the tree of a text's regions.
func file(s string) ([]api.Tok, api.Node) {
	l, _ := lexer.Scan(s)
	n := api.Node{Kind: api.NFile, To: len(s)}
	at := 0
	for _, r := range chunk.Cut(l) {
		region, _, _ := decl.Region(l[r.From:r.To])
		n.Kids = append(n.Kids, region)
		at = r.To
	}
	for _, tok := range l[at:] {
		n.Kids = append(n.Kids, api.Node{Kind: tok.Kind, From: tok.From, To: tok.To})
	}
	return l, n
}

const written = `// Package p.
package p

import "q"

type List[E any] struct { e E; next *List[E] }

func (l *List[T]) Len() int {
	n := 0
	for ; l != nil; l = l.next {
		n++ // one more
	}
	return n
}

var f = func(a, b int) int { return a+b*q.C }
var bad = )
#
`

// TestFiles: P8.9, trees as the layers below make them, whatever the text is; their leaves are their tokens.
func TestFiles(t *testing.T) {
	r := rand.New(rand.NewSource(26))
	p := green.New()
	for range 300 {
		s := written
		for range r.Intn(4) {
			at := r.Intn(len(s))
			to := min(at+r.Intn(4), len(s))
			s = s[:at] + []string{"", " ", "\n", "{", "}", "\xff", "x"}[r.Intn(7)] + s[to:]
		}
		l, n := file(s)
		expectTree(t, p, s, n)
		expectLeaves(t, n, l)
	}
	expectWidths(t, p)
}

// TestEdited: P8.9, what stays the same through an edit stays the same number, though it moves along.
func TestEdited(t *testing.T) {
	p := green.New()
	_, n := file(written)
	id := expectTree(t, p, written, n)
	kids, _ := p.Kids(id)
	edited := strings.Replace(written, "n := 0", "n :=  0", 1)
	_, m := file(edited)
	before := p.Len()
	other := expectTree(t, p, edited, m)
	others, _ := p.Kids(other)
	if other == id || len(kids) != len(others) {
		t.Fatalf("%d and %d, %d kids and %d", id, other, len(kids), len(others))
	}
	var unlike []int
	for i := range kids {
		if kids[i] != others[i] {
			unlike = append(unlike, i)
		}
	}
	if !slices.Equal(unlike, []int{3}) {
		t.Errorf("the kids %v are others", unlike)
	}
	// The blanks are new, and all nodes in which they stand: NDefine, NBlock, NFuncD, NRegion and NFile.
	if grew := p.Len() - before; grew != 6 {
		t.Errorf("%d nodes came new", grew)
	}
}
