package probe

import "scholiast/api"

// sequence is a type with which an operand may begin, and behind which values may stand.
func (g Grower) sequence(deep int) api.Node {
	switch g.R.Intn(5) {
	case 0:
		return node(api.NArray, leaf(api.TLbrack), node(api.NRest, leaf(api.TDots)), leaf(api.TRbrack), g.Type(deep-1))
	case 1:
		return node(api.NArray, leaf(api.TLbrack), g.X(deep-1, false), leaf(api.TRbrack), g.Type(deep-1))
	case 2:
		return node(api.NMap, leaf(api.TMap), leaf(api.TLbrack), g.Type(deep-1), leaf(api.TRbrack), g.Type(deep-1))
	case 3:
		fields := g.apart(0, true, semicolons(), func() api.Node { return g.field(deep - 1) })
		return node(api.NStruct, append([]api.Node{leaf(api.TStruct)}, wrap(api.TLbrace, fields, api.TRbrace)...)...)
	}
	return node(api.NSlice, leaf(api.TLbrack), leaf(api.TRbrack), g.Type(deep-1))
}

func (g Grower) qualified() api.Node {
	if g.maybe(2) {
		return node(api.NSel, name(), leaf(api.TPeriod), name())
	}
	return name()
}

func (g Grower) Type(deep int) api.Node {
	if deep <= 0 {
		return g.qualified()
	}
	switch g.R.Intn(8) {
	case 0:
		return g.qualified()
	case 1:
		inside := append([]api.Node{g.Type(deep - 1)}, g.more(deep-1, g.Type)...)
		return node(api.NIndex, append([]api.Node{g.qualified()}, wrap(api.TLbrack, inside, api.TRbrack)...)...)
	case 2:
		return node(api.NParen, leaf(api.TLparen), g.Type(deep-1), leaf(api.TRparen))
	case 3:
		return node(api.NStar, leaf(api.TMul), g.Type(deep-1))
	case 4:
		return node(api.NFunc, leaf(api.TFunc), g.Sig(deep-1))
	case 5:
		elements := g.apart(0, true, semicolons(), func() api.Node { return g.element(deep - 1) })
		return node(api.NIface, append([]api.Node{leaf(api.TInterface)}, wrap(api.TLbrace, elements, api.TRbrace)...)...)
	}
	return g.sequence(deep)
}

func (g Grower) field(deep int) api.Node {
	switch g.R.Intn(4) {
	case 0:
		return node(api.NEmbed, g.qualified())
	case 1:
		return node(api.NEmbed, node(api.NStar, leaf(api.TMul), g.qualified()))
	}
	return node(api.NField, append(g.names(), g.Type(deep))...)
}

func (g Grower) names() []api.Node {
	return g.apart(1, false, commas(), func() api.Node { return name() })
}

func (g Grower) element(deep int) api.Node {
	if g.maybe(2) {
		return node(api.NMethod, name(), g.Sig(deep))
	}
	return node(api.NUnion, g.terms(deep)...)
}

func (g Grower) terms(deep int) []api.Node {
	return g.apart(1, false, []int{api.TOr}, func() api.Node {
		if g.maybe(2) {
			return node(api.NTilde, leaf(api.TTilde), g.Type(deep))
		}
		return g.Type(deep)
	})
}

func (g Grower) Sig(deep int) api.Node {
	switch g.R.Intn(3) {
	case 0:
		return node(api.NSig, g.Params(deep), none())
	case 1:
		return node(api.NSig, g.Params(deep), g.Params(deep))
	}
	result := g.Type(deep)
	if result.Kind == api.NParen {
		result = node(api.NStar, leaf(api.TMul), result)
	}
	return node(api.NSig, g.Params(deep), result)
}

func (g Grower) Params(deep int) api.Node {
	if deep <= 0 && g.maybe(2) {
		return node(api.NParams, leaf(api.TLparen), leaf(api.TRparen))
	}
	typ := func() api.Node {
		if g.maybe(4) {
			return node(api.NDots, leaf(api.TDots), g.Type(deep-1))
		}
		return g.Type(deep - 1)
	}
	one := func() api.Node { return node(api.NParam, typ()) }
	if g.maybe(2) {
		one = func() api.Node { return node(api.NParam, append(g.names(), typ())...) }
	}
	return node(api.NParams, wrap(api.TLparen, g.apart(0, true, commas(), one), api.TRparen)...)
}

func (g Grower) TParams(deep int) api.Node {
	return node(api.NTParams, wrap(api.TLbrack, g.apart(1, true, commas(), func() api.Node {
		constraint := g.terms(deep)
		if len(constraint) > 1 || constraint[0].Kind == api.NTilde {
			constraint = []api.Node{node(api.NUnion, constraint...)}
		}
		return node(api.NParam, append(g.names(), constraint...)...)
	}), api.TRbrack)...)
}
