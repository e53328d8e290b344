package expr

import "scholiast/api"

// Type reads a type.
func (r *Reader) Type() {
	if !r.Down() {
		return
	}
	switch r.Kind() {
	case api.TIdent:
		r.typeName()
	case api.TLparen:
		r.wrapped(api.NParen, func() { r.Type(); r.Expect(api.TRparen) })
	case api.TMul:
		r.wrapped(api.NStar, r.Type)
	case api.TFunc:
		r.wrapped(api.NFunc, r.Sig)
	case api.TLbrack:
		r.sequence()
	case api.TMap:
		r.wrapped(api.NMap, r.mapping)
	case api.TStruct:
		r.wrapped(api.NStruct, func() { r.items(r.field) })
	case api.TInterface:
		r.wrapped(api.NIface, func() { r.items(r.element) })
	default:
		r.Fail(api.DSyntax)
	}
	r.Up()
}

// wrapped reads a token, and something behind it, which make a node of a kind.
func (r *Reader) wrapped(kind int, rest func()) {
	mark := r.Mark()
	r.Take()
	rest()
	r.Close(mark, kind)
}

// qualified reads a name, or one of a package.
func (r *Reader) qualified() {
	mark := r.Mark()
	r.Name()
	if r.came(api.TPeriod) {
		r.Name()
		r.Close(mark, api.NSel)
	}
}

// typeName reads the name of a type, and its arguments, if it has some.
func (r *Reader) typeName() {
	mark := r.Mark()
	r.qualified()
	if r.came(api.TLbrack) {
		r.Type()
		r.closeList(r.Type)
		r.Close(mark, api.NIndex)
	}
}

// sequence reads the type of a slice or of an array.
func (r *Reader) sequence() {
	mark := r.Mark()
	r.Take()
	kind := api.NSlice
	if r.Kind() != api.TRbrack {
		kind = api.NArray
		r.length()
	}
	r.Expect(api.TRbrack)
	r.Type()
	r.Close(mark, kind)
}

// length reads how many elements an array has.
func (r *Reader) length() {
	if r.Kind() == api.TDots {
		r.wrapped(api.NRest, func() {})
		return
	}
	r.inside()
}

// mapping reads the types of a map's keys and elements.
func (r *Reader) mapping() {
	r.Expect(api.TLbrack)
	r.Type()
	r.Expect(api.TRbrack)
	r.Type()
}

// items reads things in braces, each on a line of its own.
func (r *Reader) items(one func()) {
	r.Expect(api.TLbrace)
	for r.Kind() != api.TRbrace {
		one()
		if !r.came(api.TSemi) && !r.came(api.TAuto) {
			break
		}
	}
	r.Expect(api.TRbrace)
}

// field reads fields of one type, or an embedded one.
func (r *Reader) field() {
	mark := r.Mark()
	switch {
	case r.Kind() == api.TMul:
		r.wrapped(api.NStar, r.qualified)
		r.Close(mark, api.NEmbed)
	case r.Kind() == api.TIdent && r.endsName():
		r.qualified()
		r.Close(mark, api.NEmbed)
	default:
		r.joined(api.TComma, r.Name)
		r.Type()
		r.Close(mark, api.NField)
	}
}

// endsName says whether the name that comes has no type behind it: it is one itself.
func (r *Reader) endsName() bool {
	switch r.Ahead(1) {
	case api.TSemi, api.TAuto, api.TRbrace, api.TPeriod:
		return true
	}
	return false
}

// element reads a method or a union of an interface.
func (r *Reader) element() {
	mark := r.Mark()
	if r.Kind() == api.TIdent && r.Ahead(1) == api.TLparen {
		r.Name()
		r.Sig()
		r.Close(mark, api.NMethod)
		return
	}
	r.terms()
	r.Close(mark, api.NUnion)
}

// terms reads the terms of a union; it tells how many.
func (r *Reader) terms() int { return r.joined(api.TOr, r.term) }

// term reads a type, or all types that have it below them.
func (r *Reader) term() {
	if r.Kind() == api.TTilde {
		r.wrapped(api.NTilde, r.Type)
		return
	}
	r.Type()
}
