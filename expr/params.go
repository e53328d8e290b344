package expr

import (
	"slices"

	"scholiast/api"
)

// Sig reads the parameters and the results of a function.
func (r *Reader) Sig() {
	mark := r.Mark()
	r.Params()
	switch r.Kind() {
	case api.TLparen:
		r.Params()
	case api.TIdent, api.TMul, api.TLbrack, api.TMap, api.TStruct, api.TInterface, api.TFunc:
		r.Type()
	default:
		r.None()
	}
	r.Close(mark, api.NSig)
}

// entry is what stands between two commas of a list of parameters: which nodes of the row, the last one's kind, and whether it is a name and a type.
type entry struct {
	from, to int
	kind     int
	named    bool
}

// Params reads parameters in parentheses.
func (r *Reader) Params() {
	mark := r.Mark()
	r.Expect(api.TLparen)
	l := r.entries()
	if slices.ContainsFunc(l, func(e entry) bool { return e.named }) {
		if !fit(l) {
			r.Fail(api.DSyntax)
		}
		l = grouped(l)
	}
	r.closeEach(l, api.NParam)
	r.Expect(api.TRparen)
	r.Close(mark, api.NParams)
}

// entries reads what stands between commas. Whether a name alone is a parameter or a type shows behind the last one only, so no node is made of them yet.
func (r *Reader) entries() []entry {
	var l []entry
	for r.Kind() != api.TRparen {
		e := entry{from: r.Mark(), named: r.namesEntry()}
		if e.named {
			r.Name()
		}
		r.dotted()
		e.to, e.kind = r.Mark(), r.Last()
		l = append(l, e)
		if !r.came(api.TComma) {
			break
		}
	}
	return l
}

// namesEntry says whether an entry comes that is a name and a type.
func (r *Reader) namesEntry() bool {
	if r.Kind() != api.TIdent {
		return false
	}
	switch r.Ahead(1) {
	case api.TComma, api.TRparen, api.TPeriod:
		return false
	case api.TLbrack:
		return r.Ahead(2) == api.TRbrack || r.typeBehind()
	}
	return true
}

// typeBehind says whether something that may be a type stands behind the bracket that comes behind a name, and its partner: they are an array's then, and hold no type's arguments.
func (r *Reader) typeBehind() bool {
	n := 2
	for open := 1; open > 0; n++ {
		switch r.Ahead(n) {
		case api.TLbrack:
			open++
		case api.TRbrack:
			open--
		case 0:
			return false
		}
	}
	behind := r.Ahead(n)
	return behind != 0 && behind != api.TComma && behind != api.TRparen
}

// dotted reads a type, or one with dots ahead.
func (r *Reader) dotted() {
	if r.Kind() == api.TDots {
		r.wrapped(api.NDots, r.Type)
		return
	}
	r.Type()
}

// fit says whether entries can stand beside named ones: those that are not have to be names of a type that comes behind.
func fit(l []entry) bool {
	for _, e := range l {
		if !e.named && e.kind != api.NName {
			return false
		}
	}
	return l[len(l)-1].named
}

// grouped joins each named entry and the names ahead of it; names behind the last one are in no group.
func grouped(l []entry) []entry {
	var groups []entry
	from := l[0].from
	for i, e := range l {
		if !e.named {
			continue
		}
		groups = append(groups, entry{from: from, to: e.to})
		if i+1 < len(l) {
			from = l[i+1].from
		}
	}
	return groups
}

// closeEach makes a node of each group of the row's nodes. Close makes them of what the row ends with, so what stands from the first group on comes behind the row once more, bit by bit.
func (r *Reader) closeEach(groups []entry, kind int) {
	if len(groups) == 0 {
		return
	}
	at := groups[0].from
	rest := slices.Clone(r.row[at:])
	r.row = r.row[:at]
	again := func(to int) {
		r.row = append(r.row, rest[:to-at]...)
		rest, at = rest[to-at:], to
	}
	for _, g := range groups {
		again(g.from)
		mark := r.Mark()
		again(g.to)
		r.Close(mark, kind)
	}
	r.row = append(r.row, rest...)
}

// TParams reads type parameters in brackets, one at least.
func (r *Reader) TParams() {
	mark := r.Mark()
	r.Expect(api.TLbrack)
	r.typeParam()
	for r.came(api.TComma) && r.Kind() != api.TRbrack {
		r.typeParam()
	}
	r.Expect(api.TRbrack)
	r.Close(mark, api.NTParams)
}

// typeParam reads type parameters of one constraint.
func (r *Reader) typeParam() {
	mark := r.Mark()
	r.joined(api.TComma, r.Name)
	r.constraint()
	r.Close(mark, api.NParam)
}

// constraint reads a type, or, if it can be none, a union.
func (r *Reader) constraint() {
	mark := r.Mark()
	if r.terms() > 1 || r.Last() == api.NTilde {
		r.Close(mark, api.NUnion)
	}
}
