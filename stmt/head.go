package stmt

import (
	"scholiast/api"
	"scholiast/expr"
)

// The statements that have a head are read here: what stands between their word and their brace.

// branch reads an if.
func branch(r *expr.Reader) {
	mark := r.Mark()
	r.Expect(api.TIf)
	if opened(r) {
		r.X(true)
	}
	Block(r)
	otherwise(r)
	r.Close(mark, api.NIf)
}

// opened reads what a head begins with, and says whether that is a statement, with its semicolon, ahead of what is asked. If not, it was a mere expression: what is asked itself, ahead of which no statement stands.
func opened(r *expr.Reader) bool {
	mark := r.Mark()
	if r.Kind() == api.TSemi {
		r.None()
		r.Take()
		return true
	}
	if mere(r, true) {
		if !isSemicolon(r.Kind()) {
			r.Gap(mark)
			return false
		}
		r.Close(mark, api.NExpr)
	}
	expectSemicolon(r)
	return true
}

// expectSemicolon takes a semicolon, be it written or not; if none comes, the reader fails.
func expectSemicolon(r *expr.Reader) {
	if !cameSemicolon(r) {
		r.Fail(api.DSyntax)
	}
}

// otherwise reads what is done else, if something is.
func otherwise(r *expr.Reader) {
	switch {
	case !came(r, api.TElse):
		r.None()
	case r.Kind() != api.TIf:
		Block(r)
	case r.Down():
		branch(r)
		r.Up()
	}
}

// choice reads a switch. One that asks for a type shows by what its head ends with.
func choice(r *expr.Reader) {
	mark := r.Mark()
	r.Expect(api.TSwitch)
	asked(r)
	kind := api.NSwitch
	if r.Last() == api.NGuard {
		kind = api.NTSwitch
	}
	r.Expect(api.TLbrace)
	clauses(r)
	r.Expect(api.TRbrace)
	r.Close(mark, kind)
}

// asked reads the head of a switch.
func asked(r *expr.Reader) {
	mark := r.Mark()
	switch {
	case r.Kind() == api.TLbrace:
		r.None()
		r.None()
	case bindsGuard(r):
		r.None()
		guard(r)
	case opened(r):
		tail(r)
	default:
		unbound(r, mark)
	}
}

// tail reads what a switch asks behind a statement.
func tail(r *expr.Reader) {
	mark := r.Mark()
	switch {
	case r.Kind() == api.TLbrace:
		r.None()
	case bindsGuard(r):
		guard(r)
	default:
		r.X(true)
		unbound(r, mark)
	}
}

// unbound puts ahead of a guard, if one was read from a mark on, the name that it does not have.
func unbound(r *expr.Reader, mark int) {
	if r.Last() == api.NGuard {
		r.Gap(mark)
	}
}

// bindsGuard says whether a name comes that is declared for what has the type that is asked for.
func bindsGuard(r *expr.Reader) bool {
	if r.Kind() != api.TIdent || r.Ahead(1) != api.TDefine {
		return false
	}
	return outside(r, api.TPeriod, api.TLparen, api.TType, api.TRparen, api.TLbrace)
}

// guard reads a name, and what is asked for its type.
func guard(r *expr.Reader) {
	r.Name()
	r.Take()
	r.X(true)
	if r.Last() != api.NGuard {
		r.Fail(api.DSyntax)
	}
}

// outside says whether tokens of these kinds come, one behind the other, at depth 0, ahead of the first semicolon at depth 0. The count of brackets is a plain one: behind what closes one from ahead of all this it is below 0, where no token counts, and it may come back to 0.
func outside(r *expr.Reader, kinds ...int) bool {
	depth := 0
looking:
	for n := 0; ; n++ {
		if depth == 0 && come(r, n, kinds) {
			return true
		}
		switch r.Ahead(n) {
		case api.TLparen, api.TLbrack, api.TLbrace:
			depth++
		case api.TRparen, api.TRbrack, api.TRbrace:
			depth--
		case api.TSemi, api.TAuto:
			if depth == 0 {
				break looking
			}
		case 0:
			break looking
		}
	}
	return false
}

// come says whether tokens of these kinds stand from the n-th token behind the next one on.
func come(r *expr.Reader, n int, kinds []int) bool {
	for i, kind := range kinds {
		if r.Ahead(n+i) != kind {
			return false
		}
	}
	return true
}

// clauses reads the clauses of a switch.
func clauses(r *expr.Reader) {
reading:
	for {
		mark := r.Mark()
		switch r.Kind() {
		case api.TCase:
			r.Take()
			r.List(false)
		case api.TDefault:
			r.Take()
			r.None()
		default:
			break reading
		}
		r.Expect(api.TColon)
		statements(r)
		r.Close(mark, api.NCase)
	}
}

// loop reads a for.
func loop(r *expr.Reader) {
	mark := r.Mark()
	r.Expect(api.TFor)
	kind := api.NFor
	switch {
	case r.Kind() == api.TLbrace:
		r.None()
		r.None()
		r.None()
	case outside(r, api.TRange):
		kind = api.NRange
		ranged(r)
	case opened(r):
		counted(r)
	default:
		r.None()
	}
	Block(r)
	r.Close(mark, kind)
}

// ranged reads what is gone through, and what is given by it.
func ranged(r *expr.Reader) {
	switch {
	case r.Kind() == api.TRange:
		r.None()
	case definesNames(r):
		few(r, r.Name)
		r.Take()
	default:
		few(r, func() { r.X(true) })
		r.Expect(api.TAssign)
	}
	r.Expect(api.TRange)
	r.X(true)
}

// few makes a list of one thing, or of two.
func few(r *expr.Reader, one func()) {
	list(r, func() {
		one()
		if came(r, api.TComma) {
			one()
		}
		if r.Kind() == api.TComma {
			r.Fail(api.DSyntax)
		}
	})
}

// counted reads, behind the first statement of a for's head, its condition and its last statement.
func counted(r *expr.Reader) {
	if isSemicolon(r.Kind()) {
		r.None()
	} else {
		r.X(true)
	}
	expectSemicolon(r)
	switch {
	case r.Kind() == api.TLbrace:
		r.None()
	case definesNames(r):
		r.Fail(api.DSyntax)
	default:
		simple(r, true)
	}
}
