package scope

import (
	"scholiast/api"
	"scholiast/parts"
)

// use goes through an expression, a type, or a list of such ones: the names in it are used.
func (f *file) use(n api.Node) {
	switch n.Kind {
	case api.NName:
		f.name(n)
	case api.NSel:
		f.use(parts.At(n, 0))
	case api.NKey:
		f.key(n)
	case api.NField:
		f.use(parts.Last(n))
	case api.NMethod:
		f.use(parts.At(n, 1))
	case api.NSig:
		f.sig(n)
	case api.NFn:
		f.literal(n)
	default:
		for _, part := range parts.All(n) {
			f.use(part)
		}
	}
}

// name uses a name.
func (f *file) name(n api.Node) {
	m := f.bind(n)
	if m == nil {
		f.tell(api.DUndef, span(n))
		return
	}
	m.used = true
}

// key uses what stands ahead of a colon and behind it. A name ahead of it may be a field's, which is not looked for here.
func (f *file) key(n api.Node) {
	first := parts.At(n, 0)
	if first.Kind != api.NName || f.find(f.text(first)) != nil {
		f.use(first)
	}
	f.use(parts.At(n, 1))
}

// sig goes through a signature without a body.
func (f *file) sig(n api.Node) {
	defer f.scopes.open()()
	f.signature(n)
}

// literal goes through a function literal, whose body's statements declare in the same scope as its signature.
func (f *file) literal(n api.Node) {
	defer f.scopes.open()()
	f.signature(parts.At(n, 0))
	f.body(parts.At(n, 1))
}

// assignedTo goes through what stands on the left side of an assignment: a name alone is not used by that.
func (f *file) assignedTo(list api.Node) {
	for _, n := range parts.All(list) {
		if n.Kind == api.NName {
			f.assign(n)
		} else {
			f.use(n)
		}
	}
}

// assign looks for what a name means that is assigned to.
func (f *file) assign(name api.Node) {
	if f.text(name) != "_" && f.bind(name) == nil {
		f.tell(api.DUndef, span(name))
	}
}
