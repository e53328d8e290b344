package probe

import (
	"scholiast/api"
	"scholiast/token"
)

// Choice is what chooses: a *rand.Rand.
type Choice interface{ Intn(n int) int }

// Grower makes trees without places, as the chapters' words allow them. What it makes is told by kinds alone.
type Grower struct {
	R       Choice
	Blocks  bool // the bodies of literals are blocks; else any tokens
	Guarded bool // guards stand where no switch asks, too
	Bare    bool // loops stand often, and without a semicolon behind them, too: such a one may be taken for one that goes through something, by a range behind it
}

func node(kind int, kids ...api.Node) api.Node { return api.Node{Kind: kind, Kids: kids} }

func leaf(kind int) api.Node { return api.Node{Kind: kind} }

func none() api.Node { return leaf(api.NNone) }

func name() api.Node { return node(api.NName, leaf(api.TIdent)) }

// maybe holds once in n times.
func (g Grower) maybe(n int) bool { return g.R.Intn(n) == 0 }

// pick is one of these numbers.
func (g Grower) pick(l ...int) int { return l[g.R.Intn(len(l))] }

// wrap puts things between two leaves.
func wrap(open int, inside []api.Node, closing int) []api.Node {
	return append(append([]api.Node{leaf(open)}, inside...), leaf(closing))
}

// apart are some things, by at least so many, with a leaf of one of these kinds between; behind the last one, too, at times, if it may end so.
func (g Grower) apart(least int, ends bool, by []int, one func() api.Node) []api.Node {
	var l []api.Node
	for range least + g.pick(0, 0, 1, 1, 2, 3) {
		if len(l) > 0 {
			l = append(l, leaf(g.pick(by...)))
		}
		l = append(l, one())
	}
	if ends && len(l) > 0 && g.maybe(3) {
		l = append(l, leaf(g.pick(by...)))
	}
	return l
}

func commas() []int { return []int{api.TComma} }

func semicolons() []int { return []int{api.TSemi, api.TAuto} }

// X is an expression.
func (g Grower) X(deep int, head bool) api.Node { return g.x(deep, 1, head) }

// List is a list of expressions.
func (g Grower) List(deep int, head bool) api.Node {
	return node(api.NList, g.apart(1, false, commas(), func() api.Node { return g.X(deep, head) })...)
}

// x is an expression that binds so strongly at least.
func (g Grower) x(deep, strength int, head bool) api.Node {
	op := g.pick(api.TLor, api.TLand, api.TEql, api.TNeq, api.TLss, api.TGtr, api.TLeq, api.TGeq, api.TAdd, api.TSub, api.TOr, api.TXor, api.TMul, api.TQuo, api.TRem, api.TShl, api.TShr, api.TAnd, api.TAndNot)
	q := token.Precedence(op)
	if deep <= 0 || q < strength || g.maybe(2) {
		return g.unary(deep, head)
	}
	return node(api.NBinary, g.x(deep-1, q, head), leaf(op), g.x(deep-1, q+1, head))
}

func (g Grower) unary(deep int, head bool) api.Node {
	switch {
	case deep <= 0 || !g.maybe(4):
		return g.primary(deep, head)
	case g.maybe(2):
		return node(api.NStar, leaf(api.TMul), g.unary(deep-1, head))
	}
	return node(api.NUnary, leaf(g.pick(api.TAdd, api.TSub, api.TNot, api.TXor, api.TAnd)), g.unary(deep-1, head))
}

func (g Grower) primary(deep int, head bool) api.Node {
	n := g.operand(deep)
	for deep > 0 && g.maybe(2) {
		n = g.behind(n, deep-1, head)
	}
	return n
}

func (g Grower) operand(deep int) api.Node {
	if deep > 0 {
		switch g.R.Intn(9) {
		case 0:
			return node(api.NParen, leaf(api.TLparen), g.argument(deep-1), leaf(api.TRparen))
		case 1:
			return node(api.NFn, leaf(api.TFunc), g.Sig(deep-1), g.body(deep-1))
		case 2:
			return node(api.NComp, append([]api.Node{g.sequence(deep - 1)}, g.values(deep-1)...)...)
		case 3:
			if n := g.sequence(deep - 1); !open(n) {
				return node(api.NCall, append([]api.Node{n}, g.call(deep-1)...)...)
			}
		}
	}
	if g.maybe(3) {
		return node(api.NLit, leaf(g.pick(api.TInt, api.TRune, api.TString, api.TRaw)))
	}
	return name()
}

// argument is what stands alone within brackets: an expression, or a type.
func (g Grower) argument(deep int) api.Node {
	if g.maybe(4) {
		if n := g.Type(deep); n.Kind == api.NFunc {
			return n
		}
		return g.sequence(deep)
	}
	return g.X(deep, false)
}

// open says whether a parenthesis behind a type would be its results'.
func open(n api.Node) bool {
	for len(n.Kids) > 0 {
		n = n.Kids[len(n.Kids)-1]
	}
	return n.Kind == api.NNone
}

// behind is a node with something behind it.
func (g Grower) behind(n api.Node, deep int, head bool) api.Node {
	with := func(kind int, kids ...api.Node) api.Node { return node(kind, append([]api.Node{n}, kids...)...) }
	switch g.R.Intn(8) {
	case 0:
		return with(api.NAssert, leaf(api.TPeriod), leaf(api.TLparen), g.Type(deep), leaf(api.TRparen))
	case 1:
		if g.Guarded {
			return guarded(n)
		}
	case 2:
		inside := append([]api.Node{g.argument(deep)}, g.more(deep, g.argument)...)
		return with(api.NIndex, wrap(api.TLbrack, inside, api.TRbrack)...)
	case 3:
		return with(api.NCut, wrap(api.TLbrack, g.cut(deep), api.TRbrack)...)
	case 4:
		return with(api.NCall, g.call(deep)...)
	case 5:
		if takes(n) && !head {
			return with(api.NComp, g.values(deep)...)
		}
	}
	return with(api.NSel, leaf(api.TPeriod), name())
}

// guarded asks for a node's type.
func guarded(n api.Node) api.Node {
	return node(api.NGuard, n, leaf(api.TPeriod), leaf(api.TLparen), leaf(api.TType), leaf(api.TRparen))
}

// takes says whether a node is a name, one of a package, or one of these with arguments.
func takes(n api.Node) bool {
	if n.Kind == api.NIndex {
		n = n.Kids[0]
	}
	return n.Kind == api.NName || n.Kind == api.NSel && n.Kids[0].Kind == api.NName
}

// more is what may stand behind the first thing in brackets: others, and a comma at the end.
func (g Grower) more(deep int, one func(deep int) api.Node) []api.Node {
	var l []api.Node
	for g.maybe(2) {
		l = append(l, leaf(api.TComma), one(deep))
	}
	if g.maybe(3) {
		l = append(l, leaf(api.TComma))
	}
	return l
}

func (g Grower) cut(deep int) []api.Node {
	bound := func() api.Node {
		if g.maybe(2) {
			return none()
		}
		return g.argument(deep)
	}
	l := []api.Node{bound(), leaf(api.TColon), bound()}
	if l[2].Kind != api.NNone && g.maybe(2) {
		l = append(l, leaf(api.TColon), g.argument(deep))
	}
	return l
}

func (g Grower) call(deep int) []api.Node {
	l := g.apart(0, false, commas(), func() api.Node { return g.argument(deep) })
	if len(l) > 0 && g.maybe(3) {
		l = append(l, leaf(api.TDots))
	}
	if len(l) > 0 && g.maybe(3) {
		l = append(l, leaf(api.TComma))
	}
	return wrap(api.TLparen, l, api.TRparen)
}

func (g Grower) values(deep int) []api.Node {
	value := func() api.Node {
		if deep > 0 && g.maybe(3) {
			return node(api.NVals, g.values(deep-1)...)
		}
		return g.argument(deep)
	}
	return wrap(api.TLbrace, g.apart(0, true, commas(), func() api.Node {
		if g.maybe(3) {
			return node(api.NKey, value(), leaf(api.TColon), value())
		}
		return value()
	}), api.TRbrace)
}

// body is a literal's.
func (g Grower) body(deep int) api.Node {
	if g.Blocks {
		return g.Block(deep)
	}
	return g.flat()
}

// flat is any tokens in braces that have their partners.
func (g Grower) flat() api.Node {
	l := []api.Node{leaf(api.TLbrace)}
	for deep := 1; deep > 0; {
		kind := g.pick(api.TLbrace, api.TRbrace, api.TRbrace, api.TLparen, api.TRbrack, api.TAuto, api.TIdent, api.TFor)
		if kind == api.TLbrace {
			deep++
		}
		if kind == api.TRbrace {
			deep--
		}
		l = append(l, leaf(kind))
	}
	return node(api.NFlat, l...)
}
