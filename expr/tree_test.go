package expr_test

import (
	"slices"
	"strings"
	"testing"

	"scholiast/api"
	"scholiast/expr"
	"scholiast/lexer"
)

// kinds are the kinds of nodes that this layer makes.
var kinds = map[int]string{
	api.NParen: "NParen", api.NUnary: "NUnary", api.NStar: "NStar", api.NBinary: "NBinary", api.NSel: "NSel", api.NIndex: "NIndex", api.NCut: "NCut",
	api.NCall: "NCall", api.NAssert: "NAssert", api.NGuard: "NGuard", api.NComp: "NComp", api.NVals: "NVals", api.NKey: "NKey", api.NFn: "NFn", api.NFlat: "NFlat",
	api.NRest: "NRest", api.NSlice: "NSlice", api.NArray: "NArray", api.NMap: "NMap", api.NFunc: "NFunc", api.NStruct: "NStruct", api.NField: "NField", api.NEmbed: "NEmbed",
	api.NIface: "NIface", api.NMethod: "NMethod", api.NUnion: "NUnion", api.NTilde: "NTilde", api.NSig: "NSig", api.NParams: "NParams", api.NParam: "NParam",
	api.NDots: "NDots", api.NTParams: "NTParams", api.NList: "NList",
}

func isTrivia(kind int) bool { return kind < api.TIdent }

// tokens are those of a text, without an inserted semicolon at the end.
func tokens(s string) []api.Tok {
	l, _ := lexer.Scan(s)
	for i, t := range slices.Backward(l) {
		if t.Kind == api.TAuto {
			return slices.Delete(l, i, i+1)
		}
		if !isTrivia(t.Kind) {
			break
		}
	}
	return l
}

// show writes a node down: a name and a literal as they are, _ for an NNone, · for an inserted semicolon; of all others its kind and all kids but trivia.
func show(s string, n api.Node) string { return write(s, n, api.TIdent) }

// parts writes a node down as the chapter writes its examples, without leaves.
func parts(s string, n api.Node) string { return write(s, n, api.NNone) }

// write writes a node down, with those kids whose kinds are not below a number.
func write(s string, n api.Node, lowest int) string {
	switch n.Kind {
	case api.NNone:
		return "_"
	case api.TAuto:
		return "·"
	}
	if kinds[n.Kind] == "" {
		return s[n.From:n.To]
	}
	var kids []string
	for _, kid := range n.Kids {
		if kid.Kind >= lowest {
			kids = append(kids, write(s, kid, lowest))
		}
	}
	return kinds[n.Kind] + "<" + strings.Join(kids, " ") + ">"
}

// leaves are the leaves of nodes, from left to right.
func leaves(l []api.Node) []api.Tok {
	var all []api.Tok
	for _, n := range l {
		if n.Kind < api.NNone {
			all = append(all, api.Tok{Kind: n.Kind, From: n.From, To: n.To})
		}
		all = append(all, leaves(n.Kids)...)
	}
	return all
}

// height is how many nodes stand in one another, but leaves and those that are not there.
func height(n api.Node) int {
	if n.Kind <= api.NNone {
		return 0
	}
	most := 0
	for _, kid := range n.Kids {
		most = max(most, height(kid))
	}
	return most + 1
}

// same says whether two nodes are the same in all.
func same(a, b api.Node) bool {
	return a.Kind == b.Kind && a.From == b.From && a.To == b.To && slices.EqualFunc(a.Kids, b.Kids, same)
}

// lies says whether a node's kids lie one behind the other from its beginning to its end, and neither the first one nor the last one is trivia; and so below it. Here is the end of the last significant token ahead of it, at which what is not there stands; the answer is that of the last one in it.
func lies(n api.Node, here int) (int, bool) {
	if n.Kind == api.NNone {
		return here, n.From == here && n.To == here && len(n.Kids) == 0
	}
	if n.Kind < api.NNone {
		if isTrivia(n.Kind) {
			return here, len(n.Kids) == 0
		}
		return n.To, len(n.Kids) == 0
	}
	if len(n.Kids) == 0 || isTrivia(n.Kids[0].Kind) || isTrivia(n.Kids[len(n.Kids)-1].Kind) {
		return 0, false
	}
	at := n.From
	for _, kid := range n.Kids {
		ok := kid.From == at
		if here, ok = lies(kid, here); !ok || kid.From != at {
			return 0, false
		}
		at = kid.To
	}
	return here, at == n.To
}

// expectLaws holds what Done answered of tokens that lie one behind the other against P5.14, and against what DOC.md says of trees.
func expectLaws(t *testing.T, l []api.Tok, row []api.Node) {
	t.Helper()
	if !slices.Equal(leaves(row), l) {
		t.Fatalf("%v: the leaves of %v are others", l, row)
	}
	here := 0
	for _, n := range row {
		ok := false
		if here, ok = lies(n, here); !ok {
			t.Fatalf("%v: %v of %v does not lie as it is to", l, n, row)
		}
		if height(n) > api.MaxDepth {
			t.Fatalf("%v: a node of the height %d", l, height(n))
		}
	}
}

// procedure is what reads a part.
type procedure func(r *expr.Reader)

// head reads an expression as the head of a statement has it.
func head(r *expr.Reader) { r.X(true) }

// inside reads an expression as it stands in parentheses.
func inside(r *expr.Reader) { r.X(false) }

// spell makes a node that is written down of what a procedure reads of a text, all of it; or the diagnostic.
func spell(t *testing.T, s string, read procedure) (string, api.Diag) {
	t.Helper()
	l := tokens(s)
	r := expr.NewReader(l)
	read(r)
	row, d, ok := r.Done()
	if failed, is := r.Failed(); failed != d || is == ok {
		t.Fatalf("%q: Failed says %v, %v, and Done %v, %v", s, failed, is, d, ok)
	}
	if !ok {
		if len(row) > 0 {
			t.Fatalf("%q: %v beside %v", s, row, d)
		}
		return "", d
	}
	expectLaws(t, l, row)
	var all []string
	for _, n := range row {
		if !isTrivia(n.Kind) {
			all = append(all, show(s, n))
		}
	}
	return strings.Join(all, " "), d
}

// reads is a text, and the node that it is.
type reads struct{ text, want string }

func expectReads(t *testing.T, read procedure, l []reads) {
	t.Helper()
	for _, c := range l {
		if got, d := spell(t, c.text, read); got != c.want || d != (api.Diag{}) {
			t.Errorf("%q:\n got %s, %v\nwant %s", c.text, got, d, c.want)
		}
	}
}

// expectFails holds what a procedure, and then Done, tell of texts that fail with a code at the token behind an @, or at the end.
func expectFails(t *testing.T, read procedure, code int, l ...string) {
	t.Helper()
	for _, marked := range l {
		ahead, behind, ok := strings.Cut(marked, "@")
		if !ok {
			t.Fatalf("%q has no mark", marked)
		}
		s := ahead + behind
		want := api.Diag{Code: code, From: len(ahead), To: len(ahead)}
		for _, tok := range tokens(s) {
			if tok.From == len(ahead) && !isTrivia(tok.Kind) {
				want.To = tok.To
			}
		}
		if got, d := spell(t, s, read); d != want {
			t.Errorf("%q: %s, %v, want %v", s, got, d, want)
		}
	}
}
