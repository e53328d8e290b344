package file

import (
	"slices"

	"scholiast/api"
	"scholiast/chunk"
	"scholiast/lexer"
	"scholiast/text"
)

// contents is what was read of a text.
type contents struct {
	tree    api.Node
	diags   []api.Diag
	regions map[form]region // those of the tree, alike ones once; no others, so what was edited away is not kept
	fresh   int             // how many of them were read for it
}

// read reads a text; of its regions just those that are not known.
func read(s string, known map[form]region) contents {
	// All tokens are read again, as lexer.Rescan does not tell what is wrong with them; it is regions that take their time.
	l, wrong := lexer.Scan(s)
	c := contents{regions: map[form]region{}}
	var row []region
	end := 0
	for _, r := range chunk.Cut(l) {
		row = append(row, c.region(s, l[r.From:r.To], known))
		end = r.To
	}
	c.tree = tree(len(s), row, l[end:])
	c.diags = slices.Concat(text.Check(s), wrong, faults(row))
	return c
}

// region tells the region that some tokens of s are. It is read only if it is not known.
func (c *contents) region(s string, l []api.Tok, known map[form]region) region {
	f := formOf(s, l)
	r, ok := known[f]
	if ok {
		r = r.moved(l[0].From)
	} else {
		r = parse(l)
		c.fresh++
	}
	c.regions[f] = r
	return r
}

// tree is a file of so many bytes: its regions, and the tokens behind them.
func tree(length int, row []region, rest []api.Tok) api.Node {
	n := api.Node{Kind: api.NFile, To: length}
	for _, r := range row {
		n.Kids = append(n.Kids, r.node)
	}
	for _, t := range rest {
		n.Kids = append(n.Kids, api.Node{Kind: t.Kind, From: t.From, To: t.To})
	}
	return n
}

// faults tells what is wrong with a file's regions: of each whether it can't be read, else whether it may not stand where it does.
func faults(row []region) []api.Diag {
	if len(row) == 0 {
		return []api.Diag{{Code: api.DPackage}}
	}
	var l []api.Diag
	declared := false
	for i, r := range row {
		n := r.what()
		d := r.fault
		switch {
		case n.Kind == api.NBad:
		case (i == 0) != (n.Kind == api.NPackage):
			d = api.Diag{Code: api.DPackage, From: n.From, To: n.To}
		case n.Kind == api.NImport && declared:
			d = api.Diag{Code: api.DImport, From: n.From, To: n.To}
		}
		if d.Code != 0 {
			l = append(l, d)
		}
		declared = declared || isDeclaration(n.Kind)
	}
	return l
}

// isDeclaration says whether a region of that kind has imports end ahead of it. What can't be read may have been an import.
func isDeclaration(kind int) bool {
	return kind != api.NPackage && kind != api.NImport && kind != api.NBad
}
