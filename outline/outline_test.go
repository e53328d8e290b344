package outline_test

import (
	"math"
	"slices"
	"strings"
	"testing"

	"scholiast/api"
	"scholiast/file"
	"scholiast/outline"
	"scholiast/probe"
)

// of is what the outline of a text says.
func of(t *testing.T, s string) api.Outline {
	t.Helper()
	n, _ := file.Parse(s)
	o, f := outline.Of(s, n)
	if f != api.OK {
		t.Fatalf("%q: %d", s, f)
	}
	return o
}

// expectPrint holds the outline of a text against lines, one behind the other.
func expectPrint(t *testing.T, s string, lines ...string) {
	t.Helper()
	if got := outline.Print(of(t, s)); got != strings.Join(lines, "\n")+"\n" {
		t.Errorf("%q: %q, want %q", s, got, lines)
	}
}

// TestExamples: the chapter's examples.
func TestExamples(t *testing.T) {
	expectPrint(t, "package p; import q \"a/b\"; const ( x = iota; y, z = 1, 2 )", "package p", "import q \"a/b\"", "const x", "const y z")
	expectPrint(t, "package p; type T[P any] struct{}; func (t *T[P]) M() {}; var v, w int", "package p", "type T", "func (*T) M", "var v w")
}

// TestText: P11.1, pieces in a text, at its borders, and pieces that are in none.
func TestText(t *testing.T) {
	most, least := math.MaxInt, math.MinInt
	for _, c := range []struct {
		from, to int
		want     string
	}{
		{0, 0, ""}, {0, 1, "a"}, {1, 3, "\x00\xff"}, {0, 4, "a\x00\xffb"}, {3, 4, "b"}, {4, 4, ""},
		{0, 5, ""}, {4, 5, ""}, {5, 5, ""}, {5, 4, ""}, {2, 1, ""}, {-1, 1, ""}, {-1, -1, ""}, {-2, 4, ""},
		{most, most, ""}, {0, most, ""}, {least, 0, ""}, {least, most, ""}, {most, least, ""}, {3, least, ""},
	} {
		for _, kind := range []int{api.NFile, api.NNone, api.TIdent, 0, -1} {
			n := api.Node{Kind: kind, From: c.from, To: c.to, Kids: []api.Node{{Kind: api.TIdent, From: 1, To: 2}}}
			if got := outline.Text("a\x00\xffb", n); got != c.want {
				t.Errorf("%d .. %d: %q, want %q", c.from, c.to, got, c.want)
			}
		}
	}
	if got := outline.Text("", api.Node{}); got != "" {
		t.Errorf("of nothing: %q", got)
	}
}

// TestNoFile: P11.2, a node of whatever kind that is no NFile tells ErrNode and nothing else.
func TestNoFile(t *testing.T) {
	s := "package p; var x int"
	n, _ := file.Parse(s)
	for kind := -2; kind < 300; kind++ {
		n.Kind = kind
		o, f := outline.Of(s, n)
		if kind == api.NFile {
			if f != api.OK || outline.Print(o) != "package p\nvar x\n" {
				t.Errorf("a file: %d, %v", f, o)
			}
			continue
		}
		if f != api.ErrNode || o.Package != (api.Ident{}) || len(o.Imports) > 0 || len(o.Decls) > 0 {
			t.Errorf("kind %d: %d, %v", kind, f, o)
		}
	}
	for _, n := range []api.Node{{}, n.Kids[0], n.Kids[1].Kids[0]} {
		if _, f := outline.Of(s, n); f != api.ErrNode {
			t.Errorf("kind %d: %d", n.Kind, f)
		}
	}
}

// TestPackage: P11.2, the first package clause counts, wherever it stands, with its name's piece.
func TestPackage(t *testing.T) {
	for _, c := range []struct {
		s    string
		want api.Ident
	}{
		{"", api.Ident{}},
		{"var x int", api.Ident{}},
		{"package p", api.Ident{Name: "p", From: 8, To: 9}},
		{" /**/ package  main;", api.Ident{Name: "main", From: 15, To: 19}},
		{"package _", api.Ident{Name: "_", From: 8, To: 9}},
		{"package a\npackage b\n", api.Ident{Name: "a", From: 8, To: 9}},
		{"var x int\npackage b\npackage c\n", api.Ident{Name: "b", From: 18, To: 19}},
		{"package 1\npackage b\n", api.Ident{Name: "b", From: 18, To: 19}},
	} {
		if o := of(t, c.s); o.Package != c.want {
			t.Errorf("%q: %v, want %v", c.s, o.Package, c.want)
		}
	}
}

// TestImports: P11.2, the names, paths and pieces of imports; one without a name begins directly behind the token ahead of it.
func TestImports(t *testing.T) {
	s := "package p\nimport \"a/b\"\nimport ( q `c`; \"d\" )\nimport ()\nimport _ \"\"\n"
	want := []api.Import{
		{Path: "a/b", From: 16, To: 22},
		{Name: "q", Path: "c", From: 32, To: 37},
		{Path: "d", From: 38, To: 42},
		{Name: "_", From: 62, To: 66},
	}
	if o := of(t, s); !slices.Equal(o.Imports, want) || len(o.Decls) > 0 {
		t.Errorf("%v, want %v", o.Imports, want)
	}
	if o := of(t, "package p; var x int; import b \"a\""); len(o.Imports) != 1 || o.Imports[0] != (api.Import{Name: "b", Path: "a", From: 29, To: 34}) {
		t.Errorf("behind a declaration: %v", o.Imports)
	}
}

// TestPaths: P11.2, what literals of imports say, with those that have no end or escapes that are none.
func TestPaths(t *testing.T) {
	for literal, want := range map[string]string{
		`"a"`: "a", `""`: "", `"a/b.c"`: "a/b.c", `"\x41\u00e9\"\\"`: `Aé"\`, `"` + "`" + `"`: "`",
		`"\q"`: "", `"a\400"`: "", `"ab`: "", `"`: "", `"a\"`: "",
		"`a`": "a", "``": "", "`a\\n\"`": "a\\n\"", "`a\rb\r\r`": "ab", "`a\nb`": "a\nb", "`\r`": "", "`é\xff`": "é\xff",
		"`abc": "ab", "`a": "", "`": "", "`a\r": "a", "`a\r\n": "a",
	} {
		for _, ahead := range []string{"import ", "import x ", "package p; import (\n"} {
			s := ahead + literal
			if strings.Contains(ahead, "(") {
				if literal == "`" || strings.HasPrefix(literal, "`") && !strings.HasSuffix(literal, "`") {
					continue
				}
				s += "\n)"
			}
			o := of(t, s)
			if len(o.Imports) != 1 || o.Imports[0].Path != want || o.Imports[0].To != len(ahead)+len(literal) {
				t.Errorf("%q: %v, want the path %q", s, o.Imports, want)
			}
		}
	}
}

// TestOrder: P11.2, declarations of all kinds stand in their order, from all regions; what can't be read says nothing.
func TestOrder(t *testing.T) {
	s := `// head
package p
import "a"
func init() {}
var ( a int; b, _ = 1, 2 )
type ( A = int; B[P, Q any] []P )
x = 1
func f(1) {
}
const (
	c, d = iota, iota
	e, g
)
func (t T) m()
const ()
import b "b"
func init() {}
func _[P any](x P) {}
func`
	expectPrint(t, s, "package p", `import "a"`, `import b "b"`,
		"func init", "var a", "var b _", "type A", "type B", "const c d", "const e g", "func (T) m", "func init", "func _")
}

// TestReceivers: P11.2, what a method's receiver says.
func TestReceivers(t *testing.T) {
	for receiver, want := range map[string]string{
		"(T)": "(T)", "(t T)": "(T)", "(t, u T)": "(T)", "(a T, b U)": "(T)", "(T, U)": "(T)", "(t T,)": "(T)",
		"(*T)": "(*T)", "(t *T)": "(*T)", "(_ *T)": "(*T)",
		"((T))": "(T)", "(t ((T)))": "(T)", "(t (*T))": "(*T)", "(t *(T))": "(*T)", "(t (*(T)))": "(*T)", "(t ((*((T)))))": "(*T)",
		"(t T[P])": "(T)", "(t T[P, Q,])": "(T)", "(t *T[P])": "(*T)", "(t (*(T[P])))": "(*T)", "(T[P])": "(T)", "(t T[T[P]])": "(T)", "(t T[*U])": "(T)",
		"()": "(?)", "(**T)": "(*?)", "(t *(*T))": "(*?)", "(t (**(T)))": "(*?)",
		"(t p.T)": "(?)", "(t *p.T)": "(*?)", "(t p.T[P])": "(?)", "(t *(p.T[P]))": "(*?)",
		"(t []T)": "(?)", "(t *[]T)": "(*?)", "(t [2]T)": "(?)", "(t map[T]T)": "(?)", "(t func())": "(?)", "(t struct{})": "(?)", "(t interface{})": "(?)",
		"(t ...T)": "(?)", "(...*T)": "(?)",
	} {
		expectPrint(t, "package p\nfunc "+receiver+" M()", "package p", "func "+want+" M")
	}
	o := of(t, "func (t ((*(Tee[P])))) M() {}")
	if d := o.Decls[0]; d.Recv != "Tee" || !d.Ptr || d.Kind != api.OFunc || !slices.Equal(d.Names, []api.Ident{{Name: "M", From: 23, To: 24}}) {
		t.Errorf("%v", d)
	}
	if d := of(t, "func f(t *T)").Decls[0]; d.Recv != "" || d.Ptr {
		t.Errorf("no method: %v", d)
	}
}

// wants is what is to be told of a constant: its place in its group, and the spec like which it is, as bytes.
type wants struct {
	iota int
	like string
}

// TestConstants: P11.2, the how manieth of its group a spec is, and which one's type and values are meant.
func TestConstants(t *testing.T) {
	for _, c := range []struct {
		s    string
		want []wants
	}{
		{"const a = 1", []wants{{0, "a = 1"}}},
		{"const a", []wants{{0, "a"}}},
		{"const ( a = 1; b; c )", []wants{{0, "a = 1"}, {1, "a = 1"}, {2, "a = 1"}}},
		{"const ( a = 1; b; c = 2; d, e; f T = 3; g )", []wants{{0, "a = 1"}, {1, "a = 1"}, {2, "c = 2"}, {3, "c = 2"}, {4, "f T = 3"}, {5, "f T = 3"}}},
		{"const ( a; b; c = 1; d )", []wants{{0, "a"}, {1, "a"}, {2, "c = 1"}, {3, "c = 1"}}},
		{"const ( a = 1; b ); const ( c; d )", []wants{{0, "a = 1"}, {1, "a = 1"}, {0, "c"}, {1, "c"}}},
		{"const ( a = 1 ); const b = 2; const c", []wants{{0, "a = 1"}, {0, "b = 2"}, {0, "c"}}},
	} {
		o := of(t, c.s)
		if len(o.Decls) != len(c.want) {
			t.Errorf("%q: %v", c.s, o.Decls)
			continue
		}
		for i, d := range o.Decls {
			if d.Kind != api.OConst || d.Iota != c.want[i].iota || outline.Text(c.s, d.Like) != c.want[i].like || d.Like.Kind != api.NSpec {
				t.Errorf("%q: %d: %d, like %q, want %v", c.s, i, d.Iota, outline.Text(c.s, d.Like), c.want[i])
			}
		}
	}
}

// TestNodes: P11.2 and R4, each declaration's node is that of the tree, and what is not named for it is not there.
func TestNodes(t *testing.T) {
	s := "package p; var a, b int = 1, 2; var ( c = 3 ); type T[P any] = int; func f(x T) { y() }; func (t *T) m(); const k = func() { g() }"
	n, _ := file.Parse(s)
	o, _ := outline.Of(s, n)
	for i, c := range []struct {
		want string
		kind int
		node int
	}{
		{"a, b int = 1, 2", api.OVar, api.NSpec}, {"c = 3", api.OVar, api.NSpec}, {"func f(x T) { y() }", api.OFunc, api.NFuncD},
		{"func (t *T) m()", api.OFunc, api.NFuncD}, {"k = func() { g() }", api.OConst, api.NSpec},
	} {
		d := o.Decls[i]
		if outline.Text(s, d.Node) != c.want || d.Kind != c.kind || d.Node.Kind != c.node || d.Iota != 0 {
			t.Errorf("%d: %q, kind %d, want %q, kind %d", i, outline.Text(s, d.Node), d.Kind, c.want, c.kind)
		}
		if c.kind != api.OConst && (d.Like.Kind != 0 || d.Like.From != 0 || d.Like.To != 0 || len(d.Like.Kids) > 0) {
			t.Errorf("%d: like %v", i, d.Like)
		}
		if !slices.ContainsFunc(n.Kids, func(region api.Node) bool { return within(region, d.Node) }) {
			t.Errorf("%d: %v is no node of the tree", i, d.Node)
		}
	}
	if len(o.Decls) != 5 {
		t.Errorf("%v", o.Decls)
	}
}

// within says whether a tree has a node like that one.
func within(n, wanted api.Node) bool {
	return probe.Same(n, wanted) || slices.ContainsFunc(n.Kids, func(kid api.Node) bool { return within(kid, wanted) })
}

// TestPrint: P11.3, lines of outlines of any kind, with bytes as they are.
func TestPrint(t *testing.T) {
	names := func(l ...string) []api.Ident {
		var all []api.Ident
		for i, s := range l {
			all = append(all, api.Ident{Name: s, From: 7 * i, To: -3})
		}
		return all
	}
	for _, c := range []struct {
		o    api.Outline
		want string
	}{
		{api.Outline{}, "package \n"},
		{api.Outline{Package: api.Ident{Name: "p\n\xff", From: 3, To: 4}}, "package p\n\xff\n"},
		{api.Outline{Imports: []api.Import{{}, {Name: "a"}, {Path: "b\"\\\n\x00"}, {Name: "c d", Path: "é", From: 9}}},
			"package \nimport \"\"\nimport a \"\"\nimport \"b\"\\\n\x00\"\nimport c d \"é\"\n"},
		{api.Outline{Decls: []api.Decl{{Kind: api.OConst}, {Kind: api.OVar, Names: names("a", "", "b")}, {Kind: api.OType, Names: names("c")}, {Kind: api.OFunc, Names: names("d")}}},
			"package \nconst\nvar a  b\ntype c\nfunc d\n"},
		{api.Outline{Decls: []api.Decl{{Recv: "T", Kind: api.OFunc, Names: names("m")}, {Recv: "T", Ptr: true, Kind: api.OFunc}, {Ptr: true, Kind: api.OFunc, Names: names("f")}}},
			"package \nfunc (T) m\nfunc (*T)\nfunc f\n"},
		{api.Outline{Decls: []api.Decl{{Recv: "T", Kind: api.OVar, Names: names("m", "n")}, {Recv: "?", Ptr: true, Kind: api.OConst, Iota: 3}}},
			"package \nvar (T) m n\nconst (*?)\n"},
	} {
		if got := outline.Print(c.o); got != c.want {
			t.Errorf("%v: %q, want %q", c.o, got, c.want)
		}
	}
	for _, kind := range []int{-1, 0, 5, 6, 7, 200, math.MaxInt} {
		if got := outline.Print(api.Outline{Decls: []api.Decl{{Kind: kind, Names: names("x")}}}); got != "package \nfunc x\n" {
			t.Errorf("kind %d: %q", kind, got)
		}
	}
}
