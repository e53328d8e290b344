package scope_test

import (
	"slices"
	"testing"

	"scholiast/api"
	"scholiast/file"
	"scholiast/outline"
	"scholiast/scope"
)

// TestExamples: the chapter's examples.
func TestExamples(t *testing.T) {
	for _, s := range []string{
		"func f(x#v1 int) { y#v2 := x@v1; _ = y@v2 }",
		"func f() { x#v1!403 := 1; x@v1 = 2 }",
		"func f() { x!403 := x!402 }",
		"var a = b@v2; var b#v2 = c!402",
		"func f(a int, a!401 string) {}",
		"const a = 1; type a!401 int",
		`import$p1 "q"; func f() { q@p1.X() }`,
		`import« "q"»!404; func f() { }`,
		"func f() { L!406: for { break M!405 } }",
		"func f(v#v1 any) { switch x#v2 := v@v1.(type) { case int: _ = x@v2 } }",
	} {
		expect(t, "package p; "+s)
	}
}

// TestBinds: P12.3, all that a bind says, of each kind of thing, and that those of the universe lead nowhere.
func TestBinds(t *testing.T) {
	l := []api.Source{
		{Name: "p/a.go", Text: "package p; import \"x/q\"; var v = c + f(nil) + q.X + len(t(iota))"},
		{Name: "p/b.go", Text: "package p; const c = 1; type t int; func f[P any](p P) { _ = p }"},
	}
	binds, diags := told(t, l)
	want := [][]api.Bind{
		{
			{From: 33, To: 34, File: "p/b.go", At: 17, Kind: api.OConst},
			{From: 37, To: 38, File: "p/b.go", At: 41, Kind: api.OFunc},
			{From: 39, To: 42, At: -1, Kind: api.ONil},
			{From: 46, To: 47, File: "p/a.go", At: 17, Kind: api.OPackage},
			{From: 52, To: 55, At: -1, Kind: api.OBuiltin},
			{From: 56, To: 57, File: "p/b.go", At: 29, Kind: api.OType},
			{From: 58, To: 62, At: -1, Kind: api.OConst},
		},
		{
			{From: 31, To: 34, At: -1, Kind: api.OType},
			{From: 45, To: 48, At: -1, Kind: api.OType},
			{From: 52, To: 53, File: "p/b.go", At: 43, Kind: api.OType},
			{From: 61, To: 62, File: "p/b.go", At: 50, Kind: api.OVar},
		},
	}
	for i := range l {
		if !slices.Equal(binds[i], want[i]) || len(diags[i]) > 0 {
			t.Errorf("%s: %v, %v, want %v", l[i].Text, binds[i], diags[i], want[i])
		}
	}
}

// TestOrder: P12.3, what is told stands by places, whatever came first, and alike ones once.
func TestOrder(t *testing.T) {
	expectBody(t,
		"a#v1 := func() { d!402(c!402) }; x!403, y!403 := a@v1, b!402; L!406: for ; ; b!402() { a@v1() }",
		"x#v1 := 1; x@v1!401 := 2; _ = x@v1",
		"x#v1!403 := 1; «x@v1, x!401»!401 := 2, 3",
		"«_»!401 := 1; _ = 1",
	)
	l := []api.Source{{Name: "p/a.go", Text: "package p; import ( \"r\"; \"r\" ); func f() { x, y := 1, z; for x := range a {}; x := 1 }"}}
	_, diags := told(t, l)
	want := []api.Diag{
		{Code: api.DImports, From: 19, To: 23},
		{Code: api.DAgain, From: 24, To: 28},
		{Code: api.DUnused, From: 43, To: 44},
		{Code: api.DUnused, From: 46, To: 47},
		{Code: api.DUndef, From: 54, To: 55},
		{Code: api.DUnused, From: 61, To: 62},
		{Code: api.DUndef, From: 72, To: 73},
		{Code: api.DAgain, From: 78, To: 79},
	}
	if !slices.Equal(diags[0], want) {
		t.Errorf("%v, want %v", diags[0], want)
	}
}

// TestCounts: P12.3, as many trees as files; of no files nothing is told.
func TestCounts(t *testing.T) {
	n, _ := file.Parse("package p")
	source := api.Source{Name: "p/a.go", Text: "package p"}
	for files := range 4 {
		for trees := range 4 {
			binds, diags, f := scope.Package(slices.Repeat([]api.Source{source}, files), slices.Repeat([]api.Node{n}, trees))
			if files != trees && (f != api.ErrArg || len(binds) > 0 || len(diags) > 0) {
				t.Errorf("%d files, %d trees: %d, %v, %v", files, trees, f, binds, diags)
			}
			if files == trees && (f != api.OK || len(binds) != files || len(diags) != files) {
				t.Errorf("%d files: %d, %v, %v", files, f, binds, diags)
			}
		}
	}
}

// TestDeclared: P12.2, of outlines of texts.
func TestDeclared(t *testing.T) {
	var l []api.Outline
	for _, s := range []string{
		"package p; const a, _, b = 1, 2, 3; var init int; func (T) m() {}; func init() {}; func main() {}",
		"package p",
		"package p; import q \"q\"; type ( T int; _ int; U = T ); func _() {}; func () n() {}; var a, a int; func f() { var x int }",
	} {
		n, _ := file.Parse(s)
		o, _ := outline.Of(s, n)
		l = append(l, o)
	}
	names, files := scope.Declared(l)
	want := []api.Ident{
		{Name: "a", From: 17, To: 18}, {Name: "b", From: 23, To: 24}, {Name: "init", From: 40, To: 44}, {Name: "main", From: 88, To: 92},
		{Name: "T", From: 32, To: 33}, {Name: "U", From: 46, To: 47}, {Name: "a", From: 88, To: 89}, {Name: "a", From: 91, To: 92}, {Name: "f", From: 103, To: 104},
	}
	if !slices.Equal(names, want) || !slices.Equal(files, []int{0, 0, 0, 0, 2, 2, 2, 2, 2}) {
		t.Errorf("%v, %v", names, files)
	}
	if names, files := scope.Declared(nil); len(names) > 0 || len(files) > 0 {
		t.Errorf("of nothing: %v, %v", names, files)
	}
}

// TestDeclaredAny: P12.2, of outlines that no text has: what is a method is told by Recv, a function by its kind, and all else is declared.
func TestDeclaredAny(t *testing.T) {
	ident := func(name string) api.Ident { return api.Ident{Name: name, From: len(name), To: -7} }
	all := []api.Ident{ident("_"), ident("init"), ident(""), ident("x"), ident("_"), ident("init")}
	for _, c := range []struct {
		d    api.Decl
		want []api.Ident
	}{
		{api.Decl{Kind: api.OFunc}, []api.Ident{ident(""), ident("x")}},
		{api.Decl{Kind: api.OVar}, []api.Ident{ident("init"), ident(""), ident("x"), ident("init")}},
		{api.Decl{Kind: api.OConst, Ptr: true}, []api.Ident{ident("init"), ident(""), ident("x"), ident("init")}},
		{api.Decl{Kind: api.OType}, []api.Ident{ident("init"), ident(""), ident("x"), ident("init")}},
		{api.Decl{Kind: -3}, []api.Ident{ident("init"), ident(""), ident("x"), ident("init")}},
		{api.Decl{Kind: api.OFunc, Recv: "T"}, nil},
		{api.Decl{Kind: api.OVar, Recv: "?"}, nil},
	} {
		c.d.Names = all
		names, files := scope.Declared([]api.Outline{{}, {Decls: []api.Decl{c.d}}, {Decls: []api.Decl{{}, c.d}}})
		count := len(c.want)
		if !slices.Equal(names, slices.Concat(c.want, c.want)) || !slices.Equal(files, slices.Concat(slices.Repeat([]int{1}, count), slices.Repeat([]int{2}, count))) {
			t.Errorf("%d, %q: %v, %v", c.d.Kind, c.d.Recv, names, files)
		}
	}
}
