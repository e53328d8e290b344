package scope

import (
	"scholiast/api"
	"scholiast/parts"
)

// body goes through the statements of a function or a literal, which has labels of its own.
func (f *file) body(block api.Node) {
	around := f.labels
	defer func() { f.labels = around }()
	f.labels = newLabels()
	for _, n := range parts.All(block) {
		f.statement(n)
	}
}

// statement goes through a statement; or through an expression or a clause that is a part of one.
func (f *file) statement(n api.Node) {
	switch n.Kind {
	case api.NConst, api.NVar, api.NType:
		f.local(n)
	case api.NAssign:
		f.assignment(n)
	case api.NDefine:
		f.use(parts.At(n, 1))
		f.define(parts.At(n, 0))
	case api.NLabel:
		f.label(n)
	case api.NBreak, api.NCont:
		f.jump(n)
	case api.NBlock, api.NIf, api.NSwitch:
		f.within(n)
	case api.NFor:
		f.loop(n)
	case api.NRange:
		f.through(n)
	case api.NTSwitch:
		f.typeSwitch(n)
	case api.NCase:
		f.clause(n, nil)
	default:
		f.use(n)
	}
}

// assignment goes through the left side and the right one.
func (f *file) assignment(n api.Node) {
	if has(n, api.TAssign) {
		f.assignedTo(parts.At(n, 0))
	} else {
		f.use(parts.At(n, 0))
	}
	f.use(parts.At(n, 1))
}

// define declares those names that the innermost scope does not have; one at least must be such.
func (f *file) define(list api.Node) {
	stood := map[string]struct{}{}
	declares := false
	for _, name := range parts.All(list) {
		text := f.text(name)
		if text == "_" {
			continue
		}
		_, again := stood[text]
		stood[text] = struct{}{}
		switch {
		case again:
			f.tell(api.DAgain, span(name))
		case f.scopes.has(text):
			f.assign(name)
		default:
			f.variable(name)
			declares = true
		}
	}
	if !declares {
		f.tell(api.DAgain, span(list))
	}
}

// within goes through the parts of a statement that has a scope, as they stand.
func (f *file) within(n api.Node) {
	defer f.scopes.open()()
	for _, part := range parts.All(n) {
		f.statement(part)
	}
}

// loop goes through a for.
func (f *file) loop(n api.Node) {
	defer f.scopes.open()()
	f.statement(parts.At(n, 0))
	f.use(parts.At(n, 1))
	f.statement(parts.At(n, 3))
	f.statement(parts.At(n, 2))
}

// through goes through a for with a range.
func (f *file) through(n api.Node) {
	defer f.scopes.open()()
	f.use(parts.At(n, 1))
	if left := parts.At(n, 0); has(n, api.TDefine) {
		for _, name := range parts.All(left) {
			f.variable(name)
		}
	} else {
		f.assignedTo(left)
	}
	f.statement(parts.At(n, 2))
}

// typeSwitch goes through a switch that asks for a type. Its name is declared in each clause, but it is one variable, which any of them may use.
func (f *file) typeSwitch(n api.Node) {
	defer f.scopes.open()()
	f.statement(parts.At(n, 0))
	f.use(parts.At(n, 2))
	var asked *meaning
	if name := parts.At(n, 1); name.Kind == api.NName && f.text(name) != "_" {
		asked = f.meaning(api.OVar, name)
		f.must = append(f.must, asked)
	}
	for part := range parts.From(n, 3) {
		f.clause(part, asked)
	}
}

// clause goes through a clause, in whose scope a type switch's name is known.
func (f *file) clause(n api.Node, asked *meaning) {
	f.use(parts.At(n, 0))
	defer f.scopes.open()()
	if asked != nil {
		f.scopes.add(asked)
	}
	for part := range parts.From(n, 1) {
		f.statement(part)
	}
}
