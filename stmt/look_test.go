package stmt_test

import (
	"slices"
	"testing"

	"scholiast/api"
	"scholiast/expr"
	"scholiast/probe"
	"scholiast/stmt"
)

// opened tells how many brackets more are open behind a token than ahead of it.
func opened(kind int) int {
	switch kind {
	case api.TLparen, api.TLbrack, api.TLbrace:
		return 1
	case api.TRparen, api.TRbrack, api.TRbrace:
		return -1
	}
	return 0
}

// stands says whether tokens of these kinds stand among l, one behind the other, at depth 0, ahead of the first semicolon at depth 0: by the chapter's words.
func stands(l []api.Tok, kinds ...int) bool {
	var all []int
	for _, tok := range probe.Significant(l) {
		all = append(all, tok.Kind)
	}
	depth := 0
	for i, kind := range all {
		if depth == 0 && len(all)-i >= len(kinds) && slices.Equal(all[i:i+len(kinds)], kinds) {
			return true
		}
		if depth == 0 && (kind == api.TSemi || kind == api.TAuto) {
			return false
		}
		depth += opened(kind)
	}
	return false
}

// TestLook: P6.6 and P6.7, all short rows of brackets and semicolons and of what is looked for, behind heads which fail at one token if it is found, and at a later one, or not at all, if it is not.
func TestLook(t *testing.T) {
	ranged, guard := []int{api.TRange}, []int{api.TPeriod, api.TLparen, api.TType, api.TRparen, api.TLbrace}
	for _, c := range []struct {
		word, from, fails int // the look begins at from
		kinds             []int
		texts             tried
	}{
		{api.TFor, 1, 4, ranged, tried{"()[]{};ar", 5, "wn,n,n", ""}},
		{api.TFor, 1, 4, ranged, tried{"{};r", 8, "wn,n,n", ""}},
		{api.TFor, 1, 4, ranged, tried{"{};r", 7, "wn,n,n:n", ""}},
		{api.TFor, 1, 2, ranged, tried{"{};r", 8, "wnb", ""}},
		{api.TFor, 1, 2, ranged, tried{"{}()[]r", 6, "wnb", ""}},
		{api.TSwitch, 1, 4, guard, tried{"()[]{};ag", 5, "wn:n,n", ""}},
		{api.TSwitch, 1, 4, guard, tried{"{};g", 8, "wn:n,n", ""}},
		{api.TSwitch, 2, 5, guard, tried{"{};g", 7, "w;n:n,n", ""}},
	} {
		found, missed := 0, 0
		probe.Every(c.texts.alphabet, c.texts.n, func(s string) {
			l := probe.Spelt(c.word, c.texts.begin+s)
			r := expr.NewReader(l)
			stmt.Statement(r)
			_, d, _ := r.Done()
			got := d == api.Diag{Code: api.DSyntax, From: c.fails, To: c.fails + 1}
			if want := stands(l[c.from:], c.kinds...); got != want {
				t.Fatalf("%s%s: %v, and what is looked for is there: %v", c.texts.begin, s, d, want)
			}
			if got {
				found++
			} else {
				missed++
			}
		})
		if found < 1000 || missed < 1000 {
			t.Errorf("%v: %d found, %d missed", c.texts, found, missed)
		}
	}
}

// misled tells the first token at which reading a tree fails, as a loop is taken by what stands behind it for one that goes through something: the brace behind its condition; and whether there is such a loop. Bodies of literals are to be flat.
func misled(n api.Node) (wrong api.Tok, is bool) {
	l := probe.Leaves([]api.Node{n})
	ahead := 0 // how many leaves stand ahead of what is walked
	var walk func(n api.Node)
	walk = func(n api.Node) {
		begin := ahead
		for _, kid := range n.Kids {
			if !is && n.Kind == api.NFor && kid.Kind == api.NBlock && takesRange(l[begin+1:]) {
				wrong, is = l[ahead], true
			}
			walk(kid)
		}
		if n.Kind < api.NNone {
			ahead++
		}
	}
	walk(n)
	return wrong, is
}

// takesRange says whether a loop's head is taken for one with a range, by the tokens behind its word.
func takesRange(l []api.Tok) bool {
	all := probe.Significant(l)
	return len(all) > 0 && all[0].Kind != api.TLbrace && stands(all, api.TRange)
}

// firstMisled is like misled, of a tree with the bodies of its literals: each of them is read alone, ahead of those in it.
func firstMisled(n api.Node) (api.Tok, bool) {
	if tok, is := misled(probe.Flat(n)); is {
		return tok, true
	}
	return misledBelow(n)
}

// misledBelow is like firstMisled, of the bodies alone.
func misledBelow(n api.Node) (api.Tok, bool) {
	for _, kid := range n.Kids {
		find := misledBelow
		if n.Kind == api.NFn && kid.Kind == api.NBlock {
			find = firstMisled
		}
		if tok, is := find(kid); is {
			return tok, true
		}
	}
	return api.Tok{}, false
}

// syntaxAt is what is told of a token that can't stand where it stands.
func syntaxAt(tok api.Tok) api.Diag {
	return api.Diag{Code: api.DSyntax, From: tok.From, To: tok.To}
}
