package outline

import (
	"iter"

	"scholiast/api"
	"scholiast/green"
	"scholiast/parts"
)

// contents are what a file's regions are, in their order.
func contents(file api.Node) iter.Seq[api.Node] {
	return func(yield func(api.Node) bool) {
		for _, kid := range file.Kids {
			if kid.Kind == api.NRegion && !yield(parts.At(kid, 0)) {
				return
			}
		}
	}
}

// declarations are those of all a file's regions, one by one.
func declarations(s string, file api.Node) iter.Seq[api.Decl] {
	return func(yield func(api.Decl) bool) {
		for n := range contents(file) {
			for d := range declared(s, n) {
				if !yield(d) {
					return
				}
			}
		}
	}
}

// declared is what one region declares, by what it is.
func declared(s string, n api.Node) iter.Seq[api.Decl] {
	return func(yield func(api.Decl) bool) {
		switch n.Kind {
		case api.NConst:
			constants(s, n, yield)
		case api.NVar:
			variables(s, n, yield)
		case api.NType:
			types(s, n, yield)
		case api.NFuncD:
			yield(function(s, n))
		}
	}
}

func constants(s string, group api.Node, yield func(api.Decl) bool) {
	var like api.Node
	for i, spec := range parts.All(group) {
		if i == 0 || saysMore(spec) {
			like = spec
		}
		// Each declaration has a copy of its own, as answers share no memory.
		d := api.Decl{Kind: api.OConst, Names: names(s, spec), Node: clone(spec), Like: clone(like), Iota: i}
		if !yield(d) {
			return
		}
	}
}

// saysMore says whether a spec has a type or values.
func saysMore(spec api.Node) bool {
	return parts.At(spec, 1).Kind != api.NNone || parts.At(spec, 2).Kind != api.NNone
}

func variables(s string, group api.Node, yield func(api.Decl) bool) {
	for _, spec := range parts.All(group) {
		if !yield(api.Decl{Kind: api.OVar, Names: names(s, spec), Node: clone(spec)}) {
			return
		}
	}
}

// names are those that a spec of constants or variables declares.
func names(s string, spec api.Node) []api.Ident {
	var l []api.Ident
	for _, name := range parts.All(parts.At(spec, 0)) {
		l = append(l, ident(s, name))
	}
	return l
}

func types(s string, group api.Node, yield func(api.Decl) bool) {
	for _, spec := range parts.All(group) {
		name := []api.Ident{ident(s, parts.At(spec, 0))}
		if !yield(api.Decl{Kind: api.OType, Names: name, Node: clone(spec)}) {
			return
		}
	}
}

func function(s string, n api.Node) api.Decl {
	d := api.Decl{Kind: api.OFunc, Names: []api.Ident{ident(s, parts.At(n, 1))}, Node: clone(n)}
	if params := parts.At(n, 0); params.Kind != api.NNone {
		d.Recv, d.Ptr = receiver(s, parts.Last(parts.At(params, 0)))
	}
	return d
}

// receiver tells the name of a receiver's type, and whether it is of pointers to it.
func receiver(s string, n api.Node) (string, bool) {
	n = parts.Bare(n)
	pointer := n.Kind == api.NStar
	if pointer {
		n = parts.Bare(parts.At(n, 0))
	}
	if n.Kind == api.NIndex {
		n = parts.Bare(parts.At(n, 0))
	}
	if n.Kind != api.NName {
		return "?", pointer
	}
	return Text(s, n), pointer
}

// clone is the same tree in new memory.
func clone(n api.Node) api.Node { return green.Shift(n, 0) }
