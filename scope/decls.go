package scope

import (
	"scholiast/api"
	"scholiast/parts"
)

// declaration goes through what stands at the file's top level, whose own names the package knows already.
func (f *file) declaration(d api.Decl) {
	switch d.Kind {
	case api.OConst, api.OVar:
		f.spec(d.Node)
	case api.OType:
		f.typeSpec(d.Node)
	case api.OFunc:
		f.function(d.Node)
	}
}

// spec goes through a type and values.
func (f *file) spec(n api.Node) {
	for part := range parts.From(n, 1) {
		f.use(part)
	}
}

// typeSpec goes through type parameters and the type in which they are seen.
func (f *file) typeSpec(n api.Node) {
	defer f.scopes.open()()
	f.typeParams(parts.At(n, 1))
	f.use(parts.At(n, 2))
}

// local goes through a group of specs in a body, and declares their names.
func (f *file) local(group api.Node) {
	for _, n := range parts.All(group) {
		switch group.Kind {
		case api.NType:
			f.localType(n)
		case api.NConst:
			f.spec(n)
			for _, name := range parts.All(parts.At(n, 0)) {
				f.declare(api.OConst, name)
			}
		case api.NVar:
			f.spec(n)
			for _, name := range parts.All(parts.At(n, 0)) {
				f.variable(name)
			}
		}
	}
}

// localType declares a type's name: an alias' is not seen in its own type.
func (f *file) localType(n api.Node) {
	name := parts.At(n, 0)
	if has(n, api.TAssign) {
		f.typeSpec(n)
		f.declare(api.OType, name)
		return
	}
	f.declare(api.OType, name)
	f.typeSpec(n)
}

// has says whether one of a node's kids is a leaf of that kind.
func has(n api.Node, kind int) bool {
	for _, kid := range n.Kids {
		if kid.Kind == kind {
			return true
		}
	}
	return false
}

// function goes through a function or a method.
func (f *file) function(n api.Node) {
	defer f.scopes.open()()
	receiver, sig := parts.At(n, 0), parts.At(n, 3)
	f.receiverParams(receiver)
	f.typeParams(parts.At(n, 2))
	f.receiverType(receiver)
	f.sigTypes(sig)
	f.params(receiver)
	f.sigParams(sig)
	f.body(parts.At(n, 4))
}

// generic tells the type of a receiver that names its type's parameters; false, if it names none.
func generic(receiver api.Node) (api.Node, bool) {
	if parts.At(receiver, 1).Kind != api.NNone {
		return api.Node{}, false
	}
	n := parts.Bare(parts.Last(parts.At(receiver, 0)))
	if n.Kind == api.NStar {
		n = parts.Bare(parts.At(n, 0))
	}
	return n, n.Kind == api.NIndex
}

// receiverParams declares the type parameters that a receiver names.
func (f *file) receiverParams(receiver api.Node) {
	n, ok := generic(receiver)
	if !ok {
		return
	}
	for name := range parts.From(n, 1) {
		if name.Kind == api.NName {
			f.declare(api.OType, name)
		}
	}
}

// receiverType uses a receiver's type, without the names in it that declare.
func (f *file) receiverType(receiver api.Node) {
	n, ok := generic(receiver)
	if !ok {
		f.types(receiver)
		return
	}
	for i, part := range parts.All(n) {
		if i == 0 || part.Kind != api.NName {
			f.use(part)
		}
	}
}

// typeParams declares type parameters, which all their constraints see.
func (f *file) typeParams(n api.Node) {
	for _, group := range parts.All(n) {
		for name := range parts.Front(group) {
			f.declare(api.OType, name)
		}
	}
	f.types(n)
}

// types uses the types of parameters, or the constraints of type parameters.
func (f *file) types(params api.Node) {
	for _, param := range parts.All(params) {
		f.use(parts.Last(param))
	}
}

// params declares the names of parameters.
func (f *file) params(params api.Node) {
	for _, param := range parts.All(params) {
		for name := range parts.Front(param) {
			f.declare(api.OVar, name)
		}
	}
}

// signature goes through parameters and results, ahead of what sees them.
func (f *file) signature(sig api.Node) {
	f.sigTypes(sig)
	f.sigParams(sig)
}

// sigTypes uses the types of parameters and results.
func (f *file) sigTypes(sig api.Node) {
	for _, part := range parts.All(sig) {
		if part.Kind == api.NParams {
			f.types(part)
		} else {
			f.use(part)
		}
	}
}

// sigParams declares the names of parameters and results.
func (f *file) sigParams(sig api.Node) {
	for _, part := range parts.All(sig) {
		if part.Kind == api.NParams {
			f.params(part)
		}
	}
}
