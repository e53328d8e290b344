package scope

import (
	"scholiast/api"
	"scholiast/parts"
)

// label is that of a statement which is gone through.
type label struct {
	loop  bool // whether the statement is a for
	meant bool // whether a break or a continue means it
}

// labels are those of one function or literal.
type labels struct {
	had    map[string]struct{} // all names of labels so far
	around map[string]*label   // of each name the innermost one in which one stands
}

func newLabels() labels {
	return labels{had: map[string]struct{}{}, around: map[string]*label{}}
}

// label goes through a statement with a label.
func (f *file) label(n api.Node) {
	name, statement := parts.At(n, 0), parts.At(n, 1)
	text := f.text(name)
	if text == "_" {
		f.statement(statement)
		return
	}
	if _, again := f.labels.had[text]; again {
		f.tell(api.DAgain, span(name))
	}
	f.labels.had[text] = struct{}{}
	l := &label{loop: statement.Kind == api.NFor || statement.Kind == api.NRange}
	hidden := f.labels.around[text]
	f.labels.around[text] = l
	f.statement(statement)
	f.labels.around[text] = hidden
	if !l.meant {
		f.tell(api.DLabels, span(name))
	}
}

// jump looks for the label that a break or a continue means.
func (f *file) jump(n api.Node) {
	name := parts.At(n, 0)
	if name.Kind == api.NNone {
		return
	}
	l := f.labels.around[f.text(name)]
	if l != nil {
		l.meant = true
	}
	if l == nil || n.Kind == api.NCont && !l.loop {
		f.tell(api.DLabel, span(name))
	}
}
