package stmt

import (
	"slices"

	"scholiast/api"
	"scholiast/expr"
)

// Parse reads a block that is all of l, and the bodies of the function literals in it.
func Parse(l []api.Tok) (api.Node, api.Diag, bool) {
	n, d, ok := block(l)
	if !ok {
		return api.Node{}, d, false
	}
	return Fill(n)
}

// block reads a block that is all of l, in which the bodies of function literals are left flat.
func block(l []api.Tok) (api.Node, api.Diag, bool) {
	r := expr.NewReader(l)
	Block(r)
	row, d, ok := r.Done()
	// Trivia may stand on both sides of it.
	if i := slices.IndexFunc(row, func(n api.Node) bool { return n.Kind == api.NBlock }); i >= 0 {
		return row[i], d, ok
	}
	return api.Node{}, d, ok
}

// Fill tells a tree like n, in which the bodies of function literals are read; or what is wrong in these first, or, if nothing is, which guard asks for the type of a switch's value, but stands elsewhere.
func Fill(n api.Node) (api.Node, api.Diag, bool) {
	full, d, ok := filled(n, 0)
	if !ok {
		return api.Node{}, d, false
	}
	if g, is := stray(full); is {
		return api.Node{}, whole(g, api.DSyntax), false
	}
	return full, api.Diag{}, true
}

// whole is a diagnostic that has a node's piece.
func whole(n api.Node, code int) api.Diag {
	return api.Diag{Code: code, From: n.From, To: n.To}
}

// filled tells a tree like n, which stands in so many nodes, in which the bodies of function literals are read; or what is wrong in these first.
func filled(n api.Node, above int) (api.Node, api.Diag, bool) {
	full := api.Node{Kind: n.Kind, From: n.From, To: n.To}
	flat := bodyOf(n)
	for i, kid := range n.Kids {
		if i == flat {
			read, d, ok := body(kid, above+1)
			if !ok {
				return api.Node{}, d, false
			}
			kid = read
		}
		kid, d, ok := filled(kid, above+1)
		if !ok {
			return api.Node{}, d, false
		}
		full.Kids = append(full.Kids, kid)
	}
	return full, api.Diag{}, true
}

// bodyOf tells which kid of a node is a literal's body that is flat; below 0, if none is.
func bodyOf(n api.Node) int {
	if n.Kind != api.NFn {
		return -1
	}
	return slices.IndexFunc(n.Kids, func(kid api.Node) bool { return kid.Kind == api.NFlat })
}

// body reads a literal's flat body, which stands in so many nodes. A reader of its own counts none of these, so they are counted here.
func body(flat api.Node, above int) (api.Node, api.Diag, bool) {
	var l []api.Tok
	for _, kid := range flat.Kids {
		l = append(l, api.Tok{Kind: kid.Kind, From: kid.From, To: kid.To})
	}
	n, d, ok := block(l)
	if ok && above+height(n) > api.MaxDepth {
		return api.Node{}, whole(flat.Kids[0], api.DDepth), false
	}
	return n, d, ok
}

// height tells how high a node of a block is that was read: the most nodes that stand in one another in it, but leaves, and what is not there.
func height(n api.Node) int {
	if len(n.Kids) == 0 && n.Kind != api.NEmpty {
		return 0
	}
	below := 0
	for _, kid := range n.Kids {
		below = max(below, height(kid))
	}
	return below + 1
}

// stray tells the first guard in a tree that is not what a switch asks, and whether there is one.
func stray(n api.Node) (api.Node, bool) {
	if n.Kind == api.NGuard {
		return n, true
	}
	return strayBelow(n)
}

// strayBelow tells the first such guard below a node, and whether there is one.
func strayBelow(n api.Node) (api.Node, bool) {
	asked := -1
	if n.Kind == api.NTSwitch {
		asked = thirdPart(n)
	}
	for i, kid := range n.Kids {
		find := stray
		if i == asked {
			find = strayBelow
		}
		if g, is := find(kid); is {
			return g, true
		}
	}
	return api.Node{}, false
}

// thirdPart tells which kid of a node is its third part; below 0, if it has fewer.
func thirdPart(n api.Node) int {
	parts := 0
	for i, kid := range n.Kids {
		if kid.Kind < api.NNone {
			continue
		}
		parts++
		if parts == 3 {
			return i
		}
	}
	return -1
}
