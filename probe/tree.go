package probe

import (
	"slices"
	"strconv"
	"strings"

	"scholiast/api"
	"scholiast/lexer"
)

// IsTrivia says whether a kind is that of trivia, as a reader takes it: by its number.
func IsTrivia(kind int) bool { return kind < api.TIdent }

// Tokens are those of a text, without an inserted semicolon at the end.
func Tokens(s string) []api.Tok {
	l, _ := lexer.Scan(s)
	for i, t := range slices.Backward(l) {
		if t.Kind == api.TAuto {
			return slices.Delete(l, i, i+1)
		}
		if !IsTrivia(t.Kind) {
			break
		}
	}
	return l
}

// Significant are the tokens of l that are no trivia.
func Significant(l []api.Tok) []api.Tok {
	return slices.DeleteFunc(slices.Clone(l), func(t api.Tok) bool { return IsTrivia(t.Kind) })
}

// Word is the name of a kind of nodes that are no leaves; empty of all others.
func Word(kind int) string {
	for _, row := range []struct {
		from  int
		words string
	}{
		{api.NNone, "NNone NName NLit NParen NUnary NStar NBinary NSel NIndex NCut NCall NAssert NGuard NComp NVals NKey NFn NFlat NRest"},
		{api.NSlice, "NSlice NArray NMap NFunc NStruct NField NEmbed NIface NMethod NUnion NTilde NSig NParams NParam NDots"},
		{api.NBlock, "NBlock NEmpty NExpr NInc NAssign NDefine NList NLabel NDefer NReturn NBreak NCont NFall NIf NFor NRange NSwitch NCase NTSwitch NConst NVar NSpec NType NTSpec NTParams"},
		{api.NPackage, "NPackage NImport NImp NFuncD NBad NRegion NFile"},
	} {
		words := strings.Fields(row.words)
		if i := kind - row.from; 0 <= i && i < len(words) {
			return words[i]
		}
	}
	return ""
}

// Show writes a node down: a name and a literal as they are, _ for what is not there, · for an inserted semicolon; of all others its kind and all kids but trivia.
func Show(s string, n api.Node) string { return write(s, n, api.TIdent) }

// Whole writes a node down like Show, with its trivia.
func Whole(s string, n api.Node) string { return write(s, n, 0) }

// Parts writes a node down as the chapters write their examples, without leaves.
func Parts(s string, n api.Node) string { return write(s, n, api.NNone) }

// write writes a node down, with those kids whose kinds are not below a number.
func write(s string, n api.Node, lowest int) string {
	switch n.Kind {
	case api.NNone:
		return "_"
	case api.TAuto:
		return "·"
	case api.NName, api.NLit:
		return s[n.From:n.To]
	}
	word := Word(n.Kind)
	if word == "" {
		return s[n.From:n.To]
	}
	var kids []string
	for _, kid := range n.Kids {
		if kid.Kind >= lowest {
			kids = append(kids, write(s, kid, lowest))
		}
	}
	return word + "<" + strings.Join(kids, " ") + ">"
}

// Shape writes down a tree's kinds.
func Shape(n api.Node) string {
	s := strconv.Itoa(n.Kind) + "("
	for _, kid := range n.Kids {
		s += Shape(kid)
	}
	return s + ")"
}

// Leaves are the leaves of nodes, from left to right.
func Leaves(l []api.Node) []api.Tok {
	var all []api.Tok
	for _, n := range l {
		if n.Kind < api.NNone {
			all = append(all, api.Tok{Kind: n.Kind, From: n.From, To: n.To})
		}
		all = append(all, Leaves(n.Kids)...)
	}
	return all
}

// Height is how many nodes stand in one another, but leaves and those that are not there.
func Height(n api.Node) int {
	if n.Kind <= api.NNone {
		return 0
	}
	most := 0
	for _, kid := range n.Kids {
		most = max(most, Height(kid))
	}
	return most + 1
}

// Count counts nodes by their kinds.
func Count(n api.Node, met map[int]int) {
	met[n.Kind]++
	for _, kid := range n.Kids {
		Count(kid, met)
	}
}

// Same says whether two nodes are the same in all.
func Same(a, b api.Node) bool {
	return a.Kind == b.Kind && a.From == b.From && a.To == b.To && slices.EqualFunc(a.Kids, b.Kids, Same)
}

// Spoil writes over nodes, their kids, and the spare room of both.
func Spoil(l []api.Node) {
	for i, n := range l[:cap(l)] {
		Spoil(n.Kids)
		l[:cap(l)][i] = api.Node{Kind: -7, From: -7, To: -7}
	}
}

// Shares says whether lists of nodes share memory, with their spare room.
func Shares(lists ...[]api.Node) bool {
	met := map[*api.Node]int{}
	var walk func(l []api.Node) bool
	walk = func(l []api.Node) bool {
		for i := range l[:cap(l)] {
			n := &l[:cap(l)][i]
			if met[n] > 0 {
				return true
			}
			met[n]++
		}
		return slices.ContainsFunc(l, func(n api.Node) bool { return walk(n.Kids) })
	}
	return slices.ContainsFunc(lists, walk)
}
