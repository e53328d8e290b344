package expr

import "scholiast/api"

// What stands behind an operand is read here. All from the mark on, where the operand begins, becomes one node with it.

// selection reads what begins with a period.
func (r *Reader) selection(mark int) {
	r.Take()
	switch r.Kind() {
	case api.TIdent:
		r.Name()
		r.Close(mark, api.NSel)
	case api.TLparen:
		r.assertion(mark)
	default:
		r.Fail(api.DSyntax)
	}
}

// assertion reads a type in parentheses, or the word that stands for any.
func (r *Reader) assertion(mark int) {
	r.Take()
	kind := api.NGuard
	if !r.came(api.TType) {
		kind = api.NAssert
		r.Type()
	}
	r.Expect(api.TRparen)
	r.Close(mark, kind)
}

// index reads what stands in brackets.
func (r *Reader) index(mark int) {
	r.Take()
	if r.Kind() == api.TColon {
		r.None()
	} else {
		r.inside()
	}
	if r.Kind() == api.TColon {
		r.cut(mark)
		return
	}
	r.closeList(r.inside)
	r.Close(mark, api.NIndex)
}

// cut reads the rest of what stands in brackets, from its first colon on.
func (r *Reader) cut(mark int) {
	r.Take()
	switch r.Kind() {
	case api.TColon:
		r.Fail(api.DSyntax) // who gives a capacity gives the length, too
	case api.TRbrack:
		r.None()
	default:
		r.inside()
	}
	if r.came(api.TColon) {
		r.inside()
	}
	r.Expect(api.TRbrack)
	r.Close(mark, api.NCut)
}

// closeList reads, behind the first thing in brackets, more of the kind, and the closing bracket, ahead of which a comma may stand.
func (r *Reader) closeList(one func()) {
	for r.came(api.TComma) {
		if r.Kind() != api.TRbrack {
			one()
		}
	}
	r.Expect(api.TRbrack)
}

// call reads arguments in parentheses.
func (r *Reader) call(mark int) {
	r.Take()
	for r.Kind() != api.TRparen {
		r.inside()
		if r.came(api.TDots) {
			r.came(api.TComma)
			break // what is spread is the last one
		}
		if !r.came(api.TComma) {
			break
		}
	}
	r.Expect(api.TRparen)
	r.Close(mark, api.NCall)
}

// takesValues says whether a brace behind what was read last begins a composite literal.
func (r *Reader) takesValues(head bool) bool {
	n := r.row[len(r.row)-1].node
	switch n.Kind {
	case api.NSlice, api.NArray, api.NMap, api.NStruct:
		return true
	case api.NIndex:
		n = n.Kids[0]
	}
	if n.Kind == api.NSel {
		n = n.Kids[0]
	}
	return n.Kind == api.NName && !head
}

// values reads values in braces.
func (r *Reader) values(mark, kind int) {
	r.Expect(api.TLbrace)
	for r.Kind() != api.TRbrace {
		r.keyed()
		if !r.came(api.TComma) {
			break
		}
	}
	r.Expect(api.TRbrace)
	r.Close(mark, kind)
}

// keyed reads a value, or a key and its value.
func (r *Reader) keyed() {
	mark := r.Mark()
	r.value()
	if r.came(api.TColon) {
		r.value()
		r.Close(mark, api.NKey)
	}
}

// value reads an expression, or values in braces without their type.
func (r *Reader) value() {
	if r.Kind() != api.TLbrace {
		r.inside()
		return
	}
	if r.Down() {
		r.values(r.Mark(), api.NVals)
		r.Up()
	}
}
