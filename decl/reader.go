package decl

import (
	"scholiast/api"
	"scholiast/expr"
	"scholiast/stmt"
)

// reader reads what stands at a file's top level. What a node is read by is handed on as one of its methods.
//
// A reader that has failed does nothing, and for it no token comes any more. So what reads goes on behind a failure without asking for it; each loop ends where no token comes.
type reader struct{ *expr.Reader }

// declaration reads a declaration, by the word that comes.
func (r reader) declaration() {
	switch r.Kind() {
	case api.TPackage:
		r.worded(api.NPackage, r.Name)
	case api.TImport:
		r.worded(api.NImport, r.imports)
	case api.TConst:
		stmt.Const(r.Reader)
	case api.TVar:
		stmt.Var(r.Reader)
	case api.TType:
		stmt.Type(r.Reader)
	case api.TFunc:
		r.worded(api.NFuncD, r.function)
	default:
		r.Fail(api.DSyntax)
	}
}

// worded reads a word, and something behind it, which make a node of a kind.
func (r reader) worded(kind int, rest func()) {
	mark := r.Mark()
	r.Take()
	rest()
	r.Close(mark, kind)
}

// imports reads one import, or imports in parentheses.
func (r reader) imports() {
	if !r.came(api.TLparen) {
		r.imported()
		return
	}
	for r.Kind() != api.TRparen {
		r.imported()
		if !r.semicolon() {
			break
		}
	}
	r.Expect(api.TRparen)
}

// imported reads an import: by which name it is known, if it is given one, and its path.
func (r reader) imported() {
	mark := r.Mark()
	r.perhaps(api.TIdent, r.Name)
	r.path()
	r.Close(mark, api.NImp)
}

// path reads a literal of either kind that a text can have.
func (r reader) path() {
	mark := r.Mark()
	switch r.Kind() {
	case api.TString, api.TRaw:
		r.Take()
	default:
		r.Fail(api.DSyntax)
	}
	r.Close(mark, api.NLit)
}

// function reads, behind its word, a function or a method.
func (r reader) function() {
	r.perhaps(api.TLparen, r.Params)
	r.Name()
	r.perhaps(api.TLbrack, r.TParams)
	r.Sig()
	r.perhaps(api.TLbrace, r.block)
}

// block reads a body.
func (r reader) block() { stmt.Block(r.Reader) }

// perhaps reads a part that a token of a kind begins; if none comes, the part is not there.
func (r reader) perhaps(kind int, part func()) {
	if r.Kind() == kind {
		part()
		return
	}
	r.None()
}

// came takes a token of a kind, if it comes, and says whether it did.
func (r reader) came(kind int) bool {
	comes := r.Kind() == kind
	if comes {
		r.Take()
	}
	return comes
}

// semicolon takes a semicolon, if one comes, be it written or not, and says whether one did.
func (r reader) semicolon() bool { return r.came(api.TSemi) || r.came(api.TAuto) }
