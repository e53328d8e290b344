package expr_test

import (
	"math/rand"
	"slices"
	"testing"

	"scholiast/api"
	"scholiast/expr"
	"scholiast/probe"
)

// grown is a procedure, and a tree that it is to read.
type grown struct {
	read procedure
	n    api.Node
}

// part is one of this layer's parts.
func part(r *rand.Rand, deep int) grown {
	g := probe.Grower{R: r, Guarded: true}
	switch r.Intn(8) {
	case 0:
		return grown{(*expr.Reader).Type, g.Type(deep)}
	case 1:
		return grown{(*expr.Reader).Sig, g.Sig(deep)}
	case 2:
		return grown{(*expr.Reader).Params, g.Params(deep)}
	case 3:
		return grown{(*expr.Reader).TParams, g.TParams(deep)}
	case 4:
		return grown{head, g.X(deep, true)}
	case 5:
		return grown{func(r *expr.Reader) { r.List(false) }, g.List(deep, false)}
	}
	return grown{inside, g.X(deep, false)}
}

// made says whether this layer makes nodes of a kind: the others are statements'.
func made(kind int) bool {
	return kind < api.NBlock || kind == api.NList || kind == api.NTParams
}

// TestGrown: P5.7 to P5.12, and P5.14, trees of all kinds of nodes, their tokens with trivia between: what is read is the tree.
func TestGrown(t *testing.T) {
	r := rand.New(rand.NewSource(6))
	met := map[int]int{}
	for range 60000 {
		c := part(r, r.Intn(5))
		p := &probe.Planter{R: r, At: r.Intn(2)}
		want := p.PlantRow([]api.Node{c.n})
		reader := expr.NewReader(p.L)
		c.read(reader)
		row, d, ok := reader.Done()
		if d.Code == api.DDepth {
			continue
		}
		if !ok || !slices.EqualFunc(row, want, probe.Same) || d != (api.Diag{}) {
			t.Fatalf("%v: %v, %v, want %v", p.L, row, d, want)
		}
		probe.Count(c.n, met)
	}
	for kind := api.NName; kind <= api.NTParams; kind++ {
		if word := probe.Word(kind); word != "" && made(kind) && met[kind] < 100 {
			t.Errorf("%d of kind %s were tried", met[kind], word)
		}
	}
}

// TestSpoiled: P5.14 and R1, lists of tokens that are nearly trees, and readers that go on behind them: each ends, is lossless, or has failed at a token.
func TestSpoiled(t *testing.T) {
	r := rand.New(rand.NewSource(7))
	failed := 0
	for range 60000 {
		c := part(r, r.Intn(4))
		p := &probe.Planter{R: r}
		p.Plant(c.n)
		l := probe.Spoilt(r, p.L)
		reader := expr.NewReader(l)
		for range 1 + r.Intn(3) {
			c.read(reader)
			c = part(r, 0)
		}
		row, d, ok := reader.Done()
		if ok {
			probe.ExpectLaws(t, l, row)
			continue
		}
		failed++
		if len(row) > 0 {
			t.Fatalf("%v: %v beside %v", l, row, d)
		}
		probe.ExpectPlace(t, l, d)
	}
	if failed < 1000 {
		t.Errorf("%d failed", failed)
	}
}
