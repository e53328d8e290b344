package probe

import "scholiast/api"

// Block is statements in braces.
func (g Grower) Block(deep int) api.Node {
	return node(api.NBlock, wrap(api.TLbrace, g.statements(deep), api.TRbrace)...)
}

// statements are some statements with semicolons between, and behind the last one at times.
func (g Grower) statements(deep int) []api.Node {
	var l []api.Node
	for range g.pick(0, 1, 1, 2, 3) {
		n := g.Statement(deep)
		l = append(l, n, leaf(g.pick(semicolons()...)))
	}
	if len(l) > 0 && g.maybe(2) && g.endsBare(l[len(l)-2]) {
		l = l[:len(l)-1]
	}
	return l
}

// endsBare says whether a statement may stand without a semicolon behind it.
func (g Grower) endsBare(n api.Node) bool {
	switch n.Kind {
	case api.NEmpty:
		return false
	case api.NFor, api.NLabel:
		return g.Bare
	case api.NConst:
		spec := n.Kids[len(n.Kids)-1]
		return spec.Kind != api.NSpec || spec.Kids[len(spec.Kids)-1].Kind != api.NNone
	}
	return true
}

// Statement is one of any kind.
func (g Grower) Statement(deep int) api.Node {
	if g.Bare && deep > 0 && !g.maybe(4) {
		one := []func(deep int) api.Node{g.Block, g.branch, g.loop, g.ranged}[g.R.Intn(4)]
		return one(deep - 1)
	}
	if deep > 0 {
		switch g.R.Intn(12) {
		case 0:
			return g.Block(deep - 1)
		case 1:
			return g.branch(deep - 1)
		case 2:
			return g.loop(deep - 1)
		case 3:
			return g.ranged(deep - 1)
		case 4:
			return g.choice(deep - 1)
		case 5:
			one := []func(deep int) api.Node{g.loop, g.ranged, g.choice}[g.R.Intn(3)]
			return node(api.NLabel, name(), leaf(api.TColon), one(deep-1))
		case 6:
			return g.Declaration(deep - 1)
		}
	}
	switch g.R.Intn(9) {
	case 0:
		return node(api.NEmpty)
	case 1:
		return node(api.NReturn, leaf(api.TReturn), g.perhaps(func() api.Node { return g.List(deep, false) }))
	case 2:
		return node(api.NBreak, leaf(api.TBreak), g.perhaps(name))
	case 3:
		return node(api.NCont, leaf(api.TContinue), g.perhaps(name))
	case 4:
		return node(api.NFall, leaf(api.TFallthrough))
	case 5:
		return node(api.NDefer, leaf(api.TDefer), g.X(deep, false))
	}
	return g.simple(deep, false)
}

// perhaps is something, or that it is not there.
func (g Grower) perhaps(one func() api.Node) api.Node {
	if g.maybe(2) {
		return none()
	}
	return one()
}

// simple is a simple statement.
func (g Grower) simple(deep int, head bool) api.Node {
	if g.maybe(4) {
		return node(api.NDefine, g.nameList(), leaf(api.TDefine), g.List(deep, head))
	}
	return g.defining(deep, head)
}

// defining is a simple statement that declares nothing.
func (g Grower) defining(deep int, head bool) api.Node {
	switch g.R.Intn(4) {
	case 0:
		return node(api.NAssign, g.List(deep, head), leaf(api.TAssign), g.List(deep, head))
	case 1:
		op := api.TAddTo + g.R.Intn(api.TNotTo-api.TAddTo+1)
		return node(api.NAssign, node(api.NList, g.X(deep, head)), leaf(op), node(api.NList, g.X(deep, head)))
	case 2:
		return node(api.NInc, g.X(deep, head), leaf(g.pick(api.TInc, api.TDec)))
	}
	return node(api.NExpr, g.X(deep, head))
}

func (g Grower) nameList() api.Node { return node(api.NList, g.names()...) }

// opened is a head's first statement with its semicolon.
func (g Grower) opened(deep int) []api.Node {
	if g.maybe(3) {
		return []api.Node{none(), leaf(api.TSemi)}
	}
	return []api.Node{g.simple(deep, true), leaf(g.pick(semicolons()...))}
}

func (g Grower) branch(deep int) api.Node {
	l := []api.Node{leaf(api.TIf)}
	if g.maybe(2) {
		l = append(l, g.opened(deep)...)
	} else {
		l = append(l, none())
	}
	l = append(l, g.X(deep, true), g.Block(deep))
	switch g.R.Intn(3) {
	case 0:
		l = append(l, leaf(api.TElse), g.Block(deep))
	case 1:
		l = append(l, leaf(api.TElse), g.branch(deep-1))
	case 2:
		l = append(l, none())
	}
	return node(api.NIf, l...)
}

// loop is a for that goes through nothing.
func (g Grower) loop(deep int) api.Node {
	l := []api.Node{leaf(api.TFor)}
	switch g.R.Intn(3) {
	case 0:
		l = append(l, none(), none(), none())
	case 1:
		l = append(l, none(), g.X(deep, true), none())
	case 2:
		l = append(l, g.opened(deep)...)
		l = append(l, g.perhaps(func() api.Node { return g.X(deep, true) }), leaf(g.pick(semicolons()...)))
		l = append(l, g.perhaps(func() api.Node { return g.defining(deep, true) }))
	}
	return node(api.NFor, append(l, g.Block(deep))...)
}

// ranged is a for that goes through something.
func (g Grower) ranged(deep int) api.Node {
	few := func(one func() api.Node) api.Node {
		if g.maybe(2) {
			return node(api.NList, one())
		}
		return node(api.NList, one(), leaf(api.TComma), one())
	}
	l := []api.Node{leaf(api.TFor)}
	switch g.R.Intn(3) {
	case 0:
		l = append(l, none())
	case 1:
		l = append(l, few(name), leaf(api.TDefine))
	case 2:
		l = append(l, few(func() api.Node { return g.X(deep, true) }), leaf(api.TAssign))
	}
	return node(api.NRange, append(l, leaf(api.TRange), g.X(deep, true), g.Block(deep))...)
}

// choice is a switch.
func (g Grower) choice(deep int) api.Node {
	l := []api.Node{leaf(api.TSwitch)}
	if g.maybe(2) {
		l = append(l, g.opened(deep)...)
	} else {
		l = append(l, none())
	}
	asked := none()
	if g.maybe(2) {
		asked = g.X(deep, true)
	}
	kind := api.NSwitch
	switch {
	case g.maybe(3):
		kind = api.NTSwitch
		l = append(l, name(), leaf(api.TDefine), guarded(g.primary(deep, true)))
	case g.maybe(3):
		kind = api.NTSwitch
		l = append(l, none(), guarded(g.primary(deep, true)))
	case asked.Kind == api.NGuard:
		kind = api.NTSwitch
		l = append(l, none(), asked)
	default:
		l = append(l, asked)
	}
	return node(kind, append(l, wrap(api.TLbrace, g.clauses(deep), api.TRbrace)...)...)
}

func (g Grower) clauses(deep int) []api.Node {
	var l []api.Node
	for range g.pick(0, 1, 1, 2, 3) {
		clause := []api.Node{leaf(api.TDefault), none(), leaf(api.TColon)}
		if !g.maybe(3) {
			clause = []api.Node{leaf(api.TCase), g.List(deep, false), leaf(api.TColon)}
		}
		l = append(l, node(api.NCase, append(clause, g.statements(deep)...)...))
	}
	return l
}

// Declaration is one of constants, variables or types.
func (g Grower) Declaration(deep int) api.Node {
	switch g.R.Intn(3) {
	case 0:
		return g.specs(api.NConst, api.TConst, func() api.Node { return g.constant(deep) })
	case 1:
		return g.specs(api.NVar, api.TVar, func() api.Node { return g.variable(deep) })
	}
	return g.specs(api.NType, api.TType, func() api.Node { return g.typeSpec(deep) })
}

func (g Grower) specs(kind, word int, one func() api.Node) api.Node {
	if g.maybe(2) {
		return node(kind, leaf(word), one())
	}
	return node(kind, append([]api.Node{leaf(word)}, wrap(api.TLparen, g.apart(0, true, semicolons(), one), api.TRparen)...)...)
}

func (g Grower) constant(deep int) api.Node {
	switch g.R.Intn(3) {
	case 0:
		return node(api.NSpec, g.nameList(), none(), none())
	case 1:
		return node(api.NSpec, g.nameList(), none(), leaf(api.TAssign), g.List(deep, false))
	}
	return node(api.NSpec, g.nameList(), g.Type(deep), leaf(api.TAssign), g.List(deep, false))
}

func (g Grower) variable(deep int) api.Node {
	switch g.R.Intn(3) {
	case 0:
		return node(api.NSpec, g.nameList(), none(), leaf(api.TAssign), g.List(deep, false))
	case 1:
		return node(api.NSpec, g.nameList(), g.Type(deep), none())
	}
	return node(api.NSpec, g.nameList(), g.Type(deep), leaf(api.TAssign), g.List(deep, false))
}

func (g Grower) typeSpec(deep int) api.Node {
	if g.maybe(3) {
		if params := g.TParams(deep); showsParams(Leaves([]api.Node{params})) {
			return node(api.NTSpec, name(), params, g.Type(deep))
		}
	}
	if g.maybe(3) {
		return node(api.NTSpec, name(), none(), leaf(api.TAssign), g.Type(deep))
	}
	return node(api.NTSpec, name(), none(), g.Type(deep))
}

// showsParams says whether tokens in brackets behind a type's name show that they are its parameters.
func showsParams(l []api.Tok) bool {
	switch l[2].Kind {
	case api.TIdent, api.TComma, api.TTilde, api.TInterface, api.TFunc, api.TMap, api.TStruct:
		return true
	}
	return l[2].Kind == api.TLbrack && l[3].Kind == api.TRbrack
}

// Flat is a tree in which the bodies of literals are leaves alone.
func Flat(n api.Node) api.Node {
	flat := api.Node{Kind: n.Kind, From: n.From, To: n.To}
	for _, kid := range n.Kids {
		if n.Kind == api.NFn && kid.Kind == api.NBlock {
			body := api.Node{Kind: api.NFlat, From: kid.From, To: kid.To}
			for _, t := range Leaves(kid.Kids) {
				body.Kids = append(body.Kids, api.Node{Kind: t.Kind, From: t.From, To: t.To})
			}
			flat.Kids = append(flat.Kids, body)
			continue
		}
		flat.Kids = append(flat.Kids, Flat(kid))
	}
	return flat
}
