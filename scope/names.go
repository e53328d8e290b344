package scope

import (
	"iter"
	"strings"

	"scholiast/api"
)

// meaning is what a name means: one thing that is declared.
type meaning struct {
	name  string
	kind  int
	file  string   // where it is declared; empty of the universe's
	at    int      // where it begins there
	piece api.Span // what is told of it, if it is not used
	used  bool
}

// declaredName is a name that a package declares, in one of its files.
type declaredName struct {
	name api.Ident
	kind int
	file int
}

// declared are the names that a package's files declare, file by file.
func declared(l []api.Outline) iter.Seq[declaredName] {
	return func(yield func(declaredName) bool) {
		for i, o := range l {
			for _, d := range o.Decls {
				for _, name := range d.Names {
					if declares(d, name.Name) && !yield(declaredName{name, d.Kind, i}) {
						return
					}
				}
			}
		}
	}
}

// declares says whether a declaration has the package know that name of it.
func declares(d api.Decl, name string) bool {
	return name != "_" && d.Recv == "" && (d.Kind != api.OFunc || name != "init")
}

// gather tells what a package's names mean, and of each file which names are declared already.
func gather(l []api.Source, outlines []api.Outline) (map[string]*meaning, [][]api.Diag) {
	names := map[string]*meaning{}
	again := make([][]api.Diag, len(l))
	for d := range declared(outlines) {
		if names[d.name.Name] != nil {
			again[d.file] = append(again[d.file], api.Diag{Code: api.DAgain, From: d.name.From, To: d.name.To})
			continue
		}
		names[d.name.Name] = &meaning{name: d.name.Name, kind: d.kind, file: l[d.file].Name, at: d.name.From}
	}
	return names, again
}

// declareImports has the file know its imports.
func (f *file) declareImports(l []api.Import) {
	f.imports = map[string]*meaning{}
	for _, i := range l {
		name := importName(i)
		if name == "" || name == "_" {
			continue
		}
		piece := api.Span{From: i.From, To: i.To}
		if f.pack[name] != nil || f.imports[name] != nil {
			f.tell(api.DAgain, piece)
			continue
		}
		m := &meaning{name: name, kind: api.OPackage, file: f.source.Name, at: i.From, piece: piece}
		f.imports[name] = m
		f.must = append(f.must, m)
	}
}

// importName is by which name an import is known; empty, if by none.
func importName(i api.Import) string {
	if i.Name != "" {
		return i.Name
	}
	word := i.Path[strings.LastIndexByte(i.Path, '/')+1:]
	if strings.ContainsFunc(word, inNoWord) {
		return ""
	}
	return word
}

// inNoWord says whether a character is none that words of paths are made of.
func inNoWord(c rune) bool {
	return c != '_' && (c < '0' || c > '9') && (c < 'a' || c > 'z')
}
