package scope

import (
	"cmp"
	"slices"

	"scholiast/api"
	"scholiast/outline"
)

// file is a file whose names are gone through, and what was found so far.
type file struct {
	source  api.Source
	pack    map[string]*meaning // what the package declares
	imports map[string]*meaning // what the file declares
	scopes  scopes
	labels  labels
	must    []*meaning // what must be used
	binds   []api.Bind
	diags   []api.Diag
}

func newFile(source api.Source, pack map[string]*meaning, again []api.Diag) *file {
	return &file{source: source, pack: pack, scopes: scopes{inner: map[string]*entry{}}, diags: again}
}

// told is what was found, behind all that the file says: in the order in which it is answered.
func (f *file) told() ([]api.Bind, []api.Diag) {
	for _, m := range f.must {
		if m.used {
			continue
		}
		code := api.DUnused
		if m.kind == api.OPackage {
			code = api.DImports
		}
		f.tell(code, m.piece)
	}
	slices.SortFunc(f.binds, func(a, b api.Bind) int { return cmp.Compare(a.From, b.From) })
	slices.SortFunc(f.diags, func(a, b api.Diag) int {
		return cmp.Or(cmp.Compare(a.From, b.From), cmp.Compare(a.To, b.To), cmp.Compare(a.Code, b.Code))
	})
	return f.binds, slices.Compact(f.diags)
}

// tell keeps a diagnostic.
func (f *file) tell(code int, piece api.Span) {
	f.diags = append(f.diags, api.Diag{Code: code, From: piece.From, To: piece.To})
}

// text tells a node's bytes.
func (f *file) text(n api.Node) string { return outline.Text(f.source.Text, n) }

// span is a node's piece.
func span(n api.Node) api.Span { return api.Span{From: n.From, To: n.To} }

// declare has the innermost scope know a name, and tells what it means there; nil, if it declares nothing.
func (f *file) declare(kind int, name api.Node) *meaning {
	m := f.meaning(kind, name)
	switch {
	case m.name == "_":
		return nil
	case f.scopes.has(m.name):
		f.tell(api.DAgain, m.piece)
		return nil
	}
	f.scopes.add(m)
	return m
}

// variable declares a variable that must be used.
func (f *file) variable(name api.Node) {
	if m := f.declare(api.OVar, name); m != nil {
		f.must = append(f.must, m)
	}
}

// meaning is what a name means that declares something of that kind.
func (f *file) meaning(kind int, name api.Node) *meaning {
	return &meaning{name: f.text(name), kind: kind, file: f.source.Name, at: name.From, piece: span(name)}
}

// find tells what a name means where one stands; nil, if it means nothing.
func (f *file) find(name string) *meaning {
	if name == "_" {
		return nil
	}
	if m := f.scopes.find(name); m != nil {
		return m
	}
	if m := f.pack[name]; m != nil {
		return m
	}
	if m := f.imports[name]; m != nil {
		return m
	}
	if o, ok := Universe(name); ok {
		return &meaning{name: name, kind: o.Kind, at: -1}
	}
	return nil
}

// bind tells what a name means, and keeps that it does.
func (f *file) bind(name api.Node) *meaning {
	m := f.find(f.text(name))
	if m != nil {
		f.binds = append(f.binds, api.Bind{From: name.From, To: name.To, File: m.file, At: m.at, Kind: m.kind})
	}
	return m
}
