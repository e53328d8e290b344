package imports_test

import (
	"math/rand"
	"slices"
	"strings"
	"testing"

	"scholiast/api"
	"scholiast/imports"
)

// model is the chapter's words, by a table of which folder reaches which.
type model struct {
	names   []string
	l       []api.Outline
	folders []string
	reaches map[[2]string]bool
	imports map[[2]string]bool
}

func folderOf(name string) string { return name[:strings.LastIndex(name, "/")] }

func modelled(names []string, l []api.Outline) model {
	m := model{names: names, l: l, reaches: map[[2]string]bool{}, imports: map[[2]string]bool{}}
	for _, name := range names {
		m.folders = append(m.folders, folderOf(name))
	}
	slices.Sort(m.folders)
	m.folders = slices.Compact(m.folders)
	for i, o := range l {
		for _, x := range o.Imports {
			if slices.Contains(m.folders, x.Path) {
				m.imports[[2]string{folderOf(names[i]), x.Path}] = true
				m.reaches[[2]string{folderOf(names[i]), x.Path}] = true
			}
		}
	}
	for _, over := range m.folders {
		for _, from := range m.folders {
			for _, to := range m.folders {
				if m.reaches[[2]string{from, over}] && m.reaches[[2]string{over, to}] {
					m.reaches[[2]string{from, to}] = true
				}
			}
		}
	}
	return m
}

// check is P13.2.
func (m model) check() [][]api.Diag {
	var all [][]api.Diag
	for i, o := range m.l {
		var diags []api.Diag
		own := folderOf(m.names[i])
		first := slices.IndexFunc(m.names, func(name string) bool { return folderOf(name) == own })
		if o.Package.Name != m.l[first].Package.Name {
			diags = append(diags, api.Diag{Code: api.DClause, From: o.Package.From, To: o.Package.To})
		}
		for _, x := range o.Imports {
			switch {
			case !slices.Contains(m.folders, x.Path):
				diags = append(diags, api.Diag{Code: api.DPath, From: x.From, To: x.To})
			case x.Path == own || m.reaches[[2]string{x.Path, own}]:
				diags = append(diags, api.Diag{Code: api.DCycle, From: x.From, To: x.To})
			}
		}
		all = append(all, diags)
	}
	return all
}

// bad says whether a folder is in a ring, or reaches one that is.
func (m model) bad(folder string) bool {
	return slices.ContainsFunc(m.folders, func(path string) bool {
		return m.reaches[[2]string{path, path}] && (path == folder || m.reaches[[2]string{folder, path}])
	})
}

// order is P13.3.
func (m model) order() (first, second []string) {
	for _, folder := range m.folders {
		if m.bad(folder) {
			second = append(second, folder)
		}
	}
	for len(first)+len(second) < len(m.folders) {
		next := slices.IndexFunc(m.folders, func(folder string) bool { return m.might(first, folder) })
		first = append(first, m.folders[next])
	}
	return first, second
}

// might says whether a folder might stand next behind those that stand.
func (m model) might(stand []string, folder string) bool {
	if m.bad(folder) || slices.Contains(stand, folder) {
		return false
	}
	return !slices.ContainsFunc(m.folders, func(path string) bool {
		return m.imports[[2]string{folder, path}] && !slices.Contains(stand, path)
	})
}

// needs is P13.4, of a folder.
func (m model) needs(path string) []string {
	var l []string
	for _, folder := range slices.Concat(m.order()) {
		if folder != path && m.reaches[[2]string{path, folder}] {
			l = append(l, folder)
		}
	}
	return l
}

// expectModel holds what is told of a workspace against the model.
func expectModel(t *testing.T, names []string, l []api.Outline) {
	t.Helper()
	m := modelled(names, l)
	diags, f := imports.Check(names, l)
	if want := m.check(); f != api.OK || !slices.EqualFunc(diags, want, slices.Equal) {
		t.Fatalf("Check(%q, %v): %v, %d, want %v", names, l, diags, f, want)
	}
	first, second, f := imports.Order(names, l)
	wantFirst, wantSecond := m.order()
	if f != api.OK || !slices.Equal(first, wantFirst) || !slices.Equal(second, wantSecond) {
		t.Fatalf("Order(%q, %v): %q, %q, %d, want %q, %q", names, l, first, second, f, wantFirst, wantSecond)
	}
	for _, path := range m.folders {
		if needs, f := imports.Needs(names, l, path); f != api.OK || !slices.Equal(needs, m.needs(path)) {
			t.Fatalf("Needs(%q, %v, %q): %q, %d, want %q", names, l, path, needs, f, m.needs(path))
		}
	}
	expectFollows(t, names, diags, first, second)
}

// expectFollows holds P13.5.
func expectFollows(t *testing.T, names []string, diags [][]api.Diag, first, second []string) {
	t.Helper()
	cycle := slices.ContainsFunc(slices.Concat(diags...), func(d api.Diag) bool { return d.Code == api.DCycle })
	if cycle != (len(second) > 0) {
		t.Fatalf("%q: %v, and %q", names, diags, second)
	}
	all := slices.Concat(first, second)
	slices.Sort(all)
	if !slices.Equal(all, imports.Folders(names)) {
		t.Fatalf("%q: %q, %q", names, first, second)
	}
}

// graphs calls f with each workspace of so many folders, and whatever they import of each other.
func graphs(folders int, f func(names []string, l []api.Outline)) {
	var names []string
	for i := range folders {
		names = append(names, string(rune('a'+i))+"/x.go")
	}
	for bits := range 1 << (folders * folders) {
		l := make([]api.Outline, folders)
		for i := range folders * folders {
			if bits>>i&1 == 1 {
				o := &l[i/folders]
				o.Imports = append(o.Imports, api.Import{Path: folderOf(names[i%folders]), From: i, To: i + 1})
			}
		}
		f(names, l)
	}
}

// TestAllGraphs: P13.2 to P13.5, all workspaces of up to four folders.
func TestAllGraphs(t *testing.T) {
	for folders := range 5 {
		graphs(folders, func(names []string, l []api.Outline) { expectModel(t, names, l) })
	}
}

// grown is a workspace of some files: their folders lie in and beside each other, and import what is a folder and what is none.
func grown(r *rand.Rand) ([]string, []api.Outline) {
	words := []string{"a", "a/b", "a0", "a/b/c", "a_", "b", "ab", "b/a", "c", "d", "e/f"}
	words = words[:1+r.Intn(len(words))]
	var names []string
	for range r.Intn(16) {
		names = append(names, words[r.Intn(len(words))]+"/"+string(rune('a'+r.Intn(5)))+".go")
	}
	slices.Sort(names)
	names = slices.Compact(names)
	l := make([]api.Outline, len(names))
	for i := range l {
		l[i].Package = api.Ident{Name: []string{"p", "p", "p", "q", ""}[r.Intn(5)], From: r.Intn(9), To: r.Intn(9)}
		for range r.Intn(4) * r.Intn(3) {
			path := words[r.Intn(len(words))]
			if r.Intn(3) > 0 && i > 0 {
				path = folderOf(names[r.Intn(i)]) // one that is ahead, so that not all are in rings
			}
			if r.Intn(20) == 0 {
				path += []string{"/", "x", "/a.go"}[r.Intn(3)]
			}
			l[i].Imports = append(l[i].Imports, api.Import{Path: path, From: r.Intn(99), To: r.Intn(99)})
		}
	}
	return names, l
}

// TestGrown: P13.2 to P13.5, workspaces of any files.
func TestGrown(t *testing.T) {
	r := rand.New(rand.NewSource(2))
	good, bad := 0, 0
	for range 10000 {
		names, l := grown(r)
		expectModel(t, names, l)
		first, second, _ := imports.Order(names, l)
		good += len(first)
		bad += len(second)
	}
	if min(good, bad) < 5000 {
		t.Errorf("%d folders that reach no ring were tried, %d others", good, bad)
	}
}
