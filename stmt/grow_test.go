package stmt_test

import (
	"math/rand"
	"slices"
	"testing"

	"scholiast/api"
	"scholiast/expr"
	"scholiast/probe"
	"scholiast/stmt"
)

// grown is a procedure, and a tree that it is to read.
type grown struct {
	read procedure
	n    api.Node
}

// part is one of this layer's parts, with a word that says where its tokens end.
func part(g probe.Grower, deep int) grown {
	switch g.R.Intn(3) {
	case 0:
		return grown{stmt.Block, g.Block(deep)}
	case 1:
		n := g.Declaration(deep)
		return grown{declarations(n.Kind), n}
	}
	n := g.Statement(deep)
	for n.Kind == api.NEmpty { // it has no token of its own
		n = g.Statement(deep)
	}
	return grown{stmt.Statement, n}
}

// declarations is what reads declarations of a kind.
func declarations(kind int) procedure {
	switch kind {
	case api.NConst:
		return stmt.Const
	case api.NVar:
		return stmt.Var
	}
	return stmt.Type
}

// planted is a tree with its places, between trivia.
func planted(r *rand.Rand, n api.Node) (row []api.Node, l []api.Tok) {
	p := &probe.Planter{R: r, At: r.Intn(2)}
	row = p.PlantRow([]api.Node{n})
	return row, p.L
}

// expectMet holds that of each kind of statements enough nodes were tried.
func expectMet(t *testing.T, met map[int]int) {
	t.Helper()
	for kind := api.NBlock; kind <= api.NTParams; kind++ {
		if met[kind] < 100 {
			t.Errorf("%d of kind %s were tried", met[kind], probe.Word(kind))
		}
	}
}

// TestGrown: P6.1 to P6.8, trees of all kinds of nodes, their tokens with trivia between: what is read is the tree; or it fails where a loop is taken for one that goes through something, as what stands behind it has the words say so.
func TestGrown(t *testing.T) {
	r := rand.New(rand.NewSource(8))
	met := map[int]int{}
	wrong := 0
	for range 30000 {
		c := part(probe.Grower{R: r, Blocks: true, Guarded: true, Bare: r.Intn(2) == 0}, r.Intn(5))
		row, l := planted(r, c.n)
		flat := probe.Flat(api.Node{Kind: api.NRegion, Kids: row})
		reader := expr.NewReader(l)
		c.read(reader)
		got, d, ok := reader.Done()
		if d.Code == api.DDepth {
			continue
		}
		if tok, is := misled(flat); is {
			wrong++
			if ok || len(got) > 0 || d != syntaxAt(tok) {
				t.Fatalf("%v: %v, %v, want %v", l, got, d, tok)
			}
			continue
		}
		if !ok || !slices.EqualFunc(got, flat.Kids, probe.Same) || d != (api.Diag{}) {
			t.Fatalf("%v: %v, %v, want %v", l, got, d, flat.Kids)
		}
		probe.Count(c.n, met)
	}
	expectMet(t, met)
	if wrong < 50 {
		t.Errorf("%d with a loop that is taken for another were tried", wrong)
	}
}
