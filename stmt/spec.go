package stmt

import (
	"scholiast/api"
	"scholiast/expr"
)

// Const reads the declaration of constants.
func Const(r *expr.Reader) { declaration(r, api.TConst, api.NConst, constant) }

// Var reads the declaration of variables.
func Var(r *expr.Reader) { declaration(r, api.TVar, api.NVar, variable) }

// Type reads the declaration of types.
func Type(r *expr.Reader) { declaration(r, api.TType, api.NType, typ) }

// declaration reads a word, and one spec, or specs in parentheses.
func declaration(r *expr.Reader, word, kind int, one func(r *expr.Reader)) {
	mark := r.Mark()
	r.Expect(word)
	if came(r, api.TLparen) {
		specs(r, one)
		r.Expect(api.TRparen)
	} else {
		one(r)
	}
	r.Close(mark, kind)
}

// specs reads specs with semicolons between, up to what closes them.
func specs(r *expr.Reader, one func(r *expr.Reader)) {
reading:
	for r.Kind() != api.TRparen {
		one(r)
		if !cameSemicolon(r) {
			break reading
		}
	}
}

// constant reads a spec of constants. One without values has those of the spec ahead of it.
func constant(r *expr.Reader) {
	mark := r.Mark()
	names(r)
	switch r.Kind() {
	case api.TAssign:
		r.None()
		values(r)
	case 0, api.TSemi, api.TAuto, api.TRparen:
		r.None()
		r.None()
	default:
		r.Type()
		values(r)
	}
	r.Close(mark, api.NSpec)
}

// variable reads a spec of variables.
func variable(r *expr.Reader) {
	mark := r.Mark()
	names(r)
	if r.Kind() == api.TAssign {
		r.None()
		values(r)
	} else {
		r.Type()
		if r.Kind() == api.TAssign {
			values(r)
		} else {
			r.None()
		}
	}
	r.Close(mark, api.NSpec)
}

// values reads the sign and the values of a spec.
func values(r *expr.Reader) {
	r.Expect(api.TAssign)
	r.List(false)
}

// typ reads a spec of a type. One with parameters is no other type's name.
func typ(r *expr.Reader) {
	mark := r.Mark()
	r.Name()
	generic := takesParams(r)
	if generic {
		r.TParams()
	} else {
		r.None()
	}
	if r.Kind() == api.TAssign {
		if generic {
			r.Fail(api.DSyntax)
		}
		r.Take()
	}
	r.Type()
	r.Close(mark, api.NTSpec)
}

// takesParams says whether what comes behind a type's name are its parameters. Else a bracket is an array's or a slice's.
func takesParams(r *expr.Reader) bool {
	if r.Kind() != api.TLbrack || r.Ahead(1) != api.TIdent {
		return false
	}
	switch r.Ahead(2) {
	case api.TIdent, api.TComma, api.TTilde, api.TInterface, api.TFunc, api.TMap, api.TStruct:
		return true
	case api.TLbrack:
		return r.Ahead(3) == api.TRbrack
	}
	return false
}
