package probe

import "scholiast/api"

// Region is what a region that can be read is made of: a package clause, an import or a declaration, and a semicolon behind it at times.
func (g Grower) Region(deep int) []api.Node {
	row := []api.Node{g.topLevel(deep)}
	if g.maybe(2) {
		row = append(row, leaf(g.pick(semicolons()...)))
	}
	return row
}

func (g Grower) topLevel(deep int) api.Node {
	switch g.R.Intn(6) {
	case 0:
		return node(api.NPackage, leaf(api.TPackage), name())
	case 1:
		return g.imports()
	case 2, 3:
		return g.function(deep)
	}
	return g.Declaration(deep)
}

func (g Grower) imports() api.Node {
	one := func() api.Node {
		return node(api.NImp, g.perhaps(name), node(api.NLit, leaf(g.pick(api.TString, api.TRaw))))
	}
	return g.specs(api.NImport, api.TImport, one)
}

// function is one that is declared, or a method.
func (g Grower) function(deep int) api.Node {
	return node(api.NFuncD, leaf(api.TFunc),
		g.perhaps(func() api.Node { return g.Params(deep) }),
		name(),
		g.perhaps(func() api.Node { return g.TParams(deep) }),
		g.Sig(deep),
		g.perhaps(func() api.Node { return g.Block(deep) }))
}

// PlantRow gives nodes that stand side by side their places, with trivia ahead of each and behind the last one.
func (p *Planter) PlantRow(row []api.Node) []api.Node {
	l := p.Trivia()
	for _, n := range row {
		l = append(l, p.Plant(n))
		l = append(l, p.Trivia()...)
	}
	return l
}
