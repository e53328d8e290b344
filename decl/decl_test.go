package decl_test

import (
	"slices"
	"strings"
	"testing"

	"scholiast/api"
	"scholiast/chunk"
	"scholiast/decl"
	"scholiast/lexer"
	"scholiast/probe"
)

// reads is a text, and the node that it is.
type reads = probe.Reads

// row is a region as probe.Show writes it down, by what it is made of.
func row(s string) string { return "NRegion<" + s + ">" }

// expectReads holds what regions are: beside each text stands what its region is made of.
func expectReads(t *testing.T, l []reads) {
	t.Helper()
	for _, c := range l {
		tokens := probe.Tokens(c[0])
		n, d, ok := decl.Region(tokens)
		if got := probe.Show(c[0], n); got != row(c[1]) || d != (api.Diag{}) || !ok {
			t.Errorf("%q:\n got %s, %v, %v\nwant %s", c[0], got, d, ok, row(c[1]))
			continue
		}
		expectWhole(t, tokens, n)
	}
}

// expectWhole holds that a region that was read is all of l, by P7.2 and by what DOC.md says of trees.
func expectWhole(t *testing.T, l []api.Tok, n api.Node) {
	t.Helper()
	if n.Kind != api.NRegion || n.From != l[0].From || n.To != l[len(l)-1].To {
		t.Fatalf("%v: %v has not the piece of all tokens", l, n)
	}
	probe.ExpectLaws(t, l, n.Kids)
}

// expectFails holds what is told of regions that fail with a code at the token behind an @, or at the end.
func expectFails(t *testing.T, code int, l ...string) {
	t.Helper()
	for _, marked := range l {
		s, want := probe.Marked(t, marked, code)
		tokens := probe.Tokens(s)
		n, d, ok := decl.Region(tokens)
		if d != want || ok {
			t.Errorf("%q: %s, %v, %v, want %v", s, probe.Show(s, n), d, ok, want)
		}
		expectBad(t, tokens, n)
	}
}

// expectBad holds that a region is what those are that can't be read.
func expectBad(t *testing.T, l []api.Tok, n api.Node) {
	t.Helper()
	if want := bad(l); !probe.Same(n, want) {
		t.Errorf("%v:\n got %v\nwant %v", l, n, want)
	}
}

// bad is the region of tokens that can't be read.
func bad(l []api.Tok) api.Node {
	region := api.Node{Kind: api.NRegion}
	if len(l) > 0 {
		region.From, region.To = l[0].From, l[len(l)-1].To
	}
	left := len(probe.Significant(l))
	for _, tok := range l {
		leaf := api.Node{Kind: tok.Kind, From: tok.From, To: tok.To}
		last := len(region.Kids) - 1
		isIn := left > 0 && last >= 0 && region.Kids[last].Kind == api.NBad
		switch {
		case isIn:
			region.Kids[last].Kids = append(region.Kids[last].Kids, leaf)
			region.Kids[last].To = tok.To
		case probe.IsTrivia(tok.Kind):
			region.Kids = append(region.Kids, leaf)
		default:
			region.Kids = append(region.Kids, api.Node{Kind: api.NBad, From: tok.From, To: tok.To, Kids: []api.Node{leaf}})
		}
		if !probe.IsTrivia(tok.Kind) {
			left--
		}
	}
	return region
}

// TestExamples: the chapter's examples.
func TestExamples(t *testing.T) {
	const clause = "package p\n"
	l, _ := lexer.Scan(clause)
	n, d, ok := decl.Region(l[:4])
	if got := probe.Parts(clause, n); got != "NRegion<NPackage<p>>" || n.Kids[1].Kind != api.TAuto || d != (api.Diag{}) || !ok {
		t.Errorf("%s, %v, %v", got, d, ok)
	}
	for _, c := range []reads{
		{`import ( "a"; b "c" )`, `NImport<NImp<_ "a"> NImp<b "c">>`},
		{"func (t *T) M(x int) int { return x }", "NFuncD<NParams<NParam<t NStar<T>>> M _ NSig<NParams<NParam<x int>> int> NBlock<NReturn<NList<x>>>>"},
		{"func f[T any](x T)", "NFuncD<_ f NTParams<NParam<T any>> NSig<NParams<NParam<x T>> _> _>"},
	} {
		n, d, ok := decl.Region(probe.Tokens(c[0]))
		if got := probe.Parts(c[0], n); got != row(c[1]) || d != (api.Diag{}) || !ok {
			t.Errorf("%q:\n got %s, %v, %v\nwant %s", c[0], got, d, ok, row(c[1]))
		}
	}
	expectFails(t, api.DSyntax, "@x = 1", "func f( @{", "const a = 1 @2")
}

// TestPackage: P7.1.
func TestPackage(t *testing.T) {
	expectReads(t, []reads{
		{"package p", "NPackage<package p>"}, {"package p;", "NPackage<package p> ;"}, {"package _", "NPackage<package _>"}, {"// a\n\npackage /**/ p // b\n", "NPackage<package p>"}, {"package\np /**/ ; //", "NPackage<package p> ;"},
	})
	expectFails(t, api.DSyntax, "package@", "package@;", "package @1", `package @"p"`, "package @(p)", "package @package", "package @type", "package p@.q", "package p@, q", "package p @q", "package p @= q", "package p @{}", "package p;@;", "package p; @var a b", "package p\n@;", "package p @import")
}

// TestImport: P7.1.
func TestImport(t *testing.T) {
	expectReads(t, []reads{
		{`import "a"`, `NImport<import NImp<_ "a">>`}, {`import "a";`, `NImport<import NImp<_ "a">> ;`}, {"import `a`", "NImport<import NImp<_ `a`>>"}, {`import a "b"`, `NImport<import NImp<a "b">>`}, {"import _ `a`;", "NImport<import NImp<_ `a`>> ;"}, {`import "" // a`, `NImport<import NImp<_ "">>`}, {"import\n// a\nb /**/ \"c\"", `NImport<import NImp<b "c">>`},
		{`import ()`, `NImport<import ( )>`}, {`import ();`, `NImport<import ( )> ;`}, {`import ("a")`, `NImport<import ( NImp<_ "a"> )>`}, {"import (a `b`)", "NImport<import ( NImp<a `b`> )>"}, {`import ("a";)`, `NImport<import ( NImp<_ "a"> ; )>`}, {"import (\"a\"; b \"c\"; d `e`)", "NImport<import ( NImp<_ \"a\"> ; NImp<b \"c\"> ; NImp<d `e`> )>"}, {"import (\n\t\"a\" // b\n\n\tc \"d\"\n)", `NImport<import ( NImp<_ "a"> · NImp<c "d"> · )>`}, {"import (\"a\"\n\"b\";)", `NImport<import ( NImp<_ "a"> · NImp<_ "b"> ; )>`}, {"import\n(\n)", `NImport<import ( )>`},
	})
	expectFails(t, api.DSyntax,
		"import@", "import@;", "import @1", "import @'a'", `import @. "a"`, `import @* "a"`, "import a@", "import a@;", "import a @b", `import a @b "c"`, `import a@.b "c"`, `import a @= "b"`, `import a @. "b"`, `import a @("b")`, `import "a" @"b"`, `import "a"@, "b"`, `import "a" @b`, `import "a";@;`, `import "a" @+ "b"`, `import @import "a"`, `import @func "a"`, "import @)", `import @{"a"}`, "import a @import",
		"import (@", "import (@;)", `import ("a"@`, `import ("a";@`, `import ("a"; @;)`, "import (\"a\"\n@;)", `import ("a" @"b")`, `import ("a"@, "b")`, `import ("a"@}`, "import (a@)", "import (a@;)", "import (a @1)", `import (@("a"))`, "import (@import \"a\")", `import (@. "a")`, `import ("a"; b@)`, `import ("a") @"b"`, `import ("a")@)`, `import () @()`, `import ("a");@;`, "import (a @b \"c\")")
}

// TestSpecs: P7.1, the declarations that layer 6 reads, each by its own procedure.
func TestSpecs(t *testing.T) {
	expectReads(t, []reads{
		{"const a = 1", "NConst<const NSpec<NList<a> _ = NList<1>>>"}, {"const a", "NConst<const NSpec<NList<a> _ _>>"}, {"const a;", "NConst<const NSpec<NList<a> _ _>> ;"}, {"const a b = c;", "NConst<const NSpec<NList<a> b = NList<c>>> ;"}, {"const (\n\ta = iota\n\tb\n)", "NConst<const ( NSpec<NList<a> _ = NList<iota>> · NSpec<NList<b> _ _> · )>"}, {"/**/ const () //", "NConst<const ( )>"},
		{"var a b", "NVar<var NSpec<NList<a> b _>>"}, {"var a, b c = d, e;", "NVar<var NSpec<NList<a , b> c = NList<d , e>>> ;"}, {"// a\nvar b = c // d\n", "NVar<var NSpec<NList<b> _ = NList<c>>>"}, {"var (a b; c = d)", "NVar<var ( NSpec<NList<a> b _> ; NSpec<NList<c> _ = NList<d>> )>"}, {"var ();", "NVar<var ( )> ;"},
		{"type a b", "NType<type NTSpec<a _ b>>"}, {"type a = b;", "NType<type NTSpec<a _ = b>> ;"}, {"type a[b any] struct { c b }", "NType<type NTSpec<a NTParams<[ NParam<b any> ]> NStruct<struct { NField<c b> }>>>"}, {"type (\n\ta b\n\tc = d\n);", "NType<type ( NTSpec<a _ b> · NTSpec<c _ = d> · )> ;"}, {"type ()", "NType<type ( )>"},
	})
	expectFails(t, api.DSyntax,
		"const@", "const@;", "const @1", "const a b@", "const a b@;", "const a = 1,@", "const a = @;", "const a = 1 @b", "const (a) @b", "const a;@;", "const a; @b", "const a @:= 1", "const (a = 1@", "const a = 1@)", "const @const a",
		"var@", "var a@", "var a@;", "var a = b @c", "var a b@, c", "var (a@)", "var a b;@;", "var a b\n@var c d", "var a b @var c d", "var a b@}", "var @func f()",
		"type@", "type a@", "type a@;", "type a b @c", "type a b @= c", "type a[b any] @= c", "type (a b)@)", "type a b;@;", "type a = b @{}", "type (a b@", "type a struct {@", "type a b @type c d")
}

// TestFunc: P7.1, functions and methods, with a body and without one.
func TestFunc(t *testing.T) {
	const sig = "NSig<NParams<( )> _>"
	expectReads(t, []reads{
		{"func f()", "NFuncD<func _ f _ " + sig + " _>"}, {"func f();", "NFuncD<func _ f _ " + sig + " _> ;"}, {"func f() {}", "NFuncD<func _ f _ " + sig + " NBlock<{ }>>"}, {"func f() {};", "NFuncD<func _ f _ " + sig + " NBlock<{ }>> ;"}, {"func _() { a }", "NFuncD<func _ _ _ " + sig + " NBlock<{ NExpr<a> }>>"}, {"// a\nfunc\nf /**/ () /**/ {\n\ta\n} // b\n", "NFuncD<func _ f _ " + sig + " NBlock<{ NExpr<a> · }>>"},
		{"func f() a", "NFuncD<func _ f _ NSig<NParams<( )> a> _>"}, {"func f(a, b c, d ...e) (g, h) {}", "NFuncD<func _ f _ NSig<NParams<( NParam<a , b c> , NParam<d NDots<... e>> )> NParams<( NParam<g> , NParam<h> )>> NBlock<{ }>>"}, {"func f() struct{} {}", "NFuncD<func _ f _ NSig<NParams<( )> NStruct<struct { }>> NBlock<{ }>>"}, {"func f() func() {}", "NFuncD<func _ f _ NSig<NParams<( )> NFunc<func " + sig + ">> NBlock<{ }>>"}, {"func f() func() a {}", "NFuncD<func _ f _ NSig<NParams<( )> NFunc<func NSig<NParams<( )> a>>> NBlock<{ }>>"}, {"func f() []a { return b{} }", "NFuncD<func _ f _ NSig<NParams<( )> NSlice<[ ] a>> NBlock<{ NReturn<return NList<NComp<b { }>>> }>>"}, {"func f() a {}", "NFuncD<func _ f _ NSig<NParams<( )> a> NBlock<{ }>>"}, {"func f() (a);", "NFuncD<func _ f _ NSig<NParams<( )> NParams<( NParam<a> )>> _> ;"},
		{"func (a) f()", "NFuncD<func NParams<( NParam<a> )> f _ " + sig + " _>"}, {"func (a *b[c, d]) f() {}", "NFuncD<func NParams<( NParam<a NStar<* NIndex<b [ c , d ]>>> )> f _ " + sig + " NBlock<{ }>>"}, {"func (*a) f() b", "NFuncD<func NParams<( NParam<NStar<* a>> )> f _ NSig<NParams<( )> b> _>"}, {"func () f()", "NFuncD<func NParams<( )> f _ " + sig + " _>"}, {"func (a b, c ...d) f() {}", "NFuncD<func NParams<( NParam<a b> , NParam<c NDots<... d>> )> f _ " + sig + " NBlock<{ }>>"}, {"func (a b,\n) f()", "NFuncD<func NParams<( NParam<a b> , )> f _ " + sig + " _>"},
		{"func f[a any]()", "NFuncD<func _ f NTParams<[ NParam<a any> ]> " + sig + " _>"}, {"func f[a, b ~c | d, e []a](g a) {}", "NFuncD<func _ f NTParams<[ NParam<a , b NUnion<NTilde<~ c> | d>> , NParam<e NSlice<[ ] a>> ]> NSig<NParams<( NParam<g a> )> _> NBlock<{ }>>"}, {"func (a b) f[c d]()", "NFuncD<func NParams<( NParam<a b> )> f NTParams<[ NParam<c d> ]> " + sig + " _>"},
	})
	expectFails(t, api.DSyntax,
		"func@", "func@;", "func @1", "func @{}", "func @*a", "func @[a b]()", "func @func()", "func f@", "func f@;", "func f @{}", "func f @a()", "func f@.a()", "func a@.f()", "func f @= a", "func f(@", "func f(@;)", "func f(a@", "func f(a @1)", "func f(a@;)", "func f(a, b.c, d int@)", "func f() () @()", "func f() @1", "func f() @...a", "func f() @= a", "func f() a @b", "func f() (a b, c@)", "func f() {@", "func f() { a@", "func f() {} @{}", "func f() {} @a", "func f() {}@)", "func f() {} @func g() {}", "func f() {};@;", "func f();@;", "func f()\n@{}", "func f() a\n@{}", "func f() { a @b }", "func f() { @) }", "func f() { func @g() {} }", "func f() { if a @}", "func f() { @case a: }", "func f() {}@, g() {}", "func f() []@", "func f() [@", "func f() { return }@}",
		"func (@", "func ()@", "func () @{}", "func ()@;", "func (a@", "func (a @1) f()", "func (a b)@", "func (a b) @(c)", "func (a b) @1()", "func (a b) f@", "func (a b) f @{}", "func (a b, c@) f()", "func (a b) @[c d] f()", "func (a b) f@.g()", "func ()@() {}", "func (a b) @func()",
		"func f[@](a)", "func f[@", "func f[a@](b)", "func f[a b@", "func f[a b](@", "func f[a b]@", "func f[a b] @{}", "func f[a b]@[c d]()", "func f[a b@; c d]()", "func f[@1]()", "func f[a b,@,]()", "func f[a b@) ()")
}

// TestElse: P7.1, what begins with another token, of whatever kind, is none of these; semicolons, too.
func TestElse(t *testing.T) {
	expectFails(t, api.DSyntax, "@;", "@;;", "@a", "@a = 1", "@a := 1", "@a: for {}", "@f()", "@1", "@{}", "@(a)", "@)", "@}", "@]", "@if a {}", "@for {}", "@switch {}", "@return", "@break", "@defer f()", "@go f()", "@struct {}", "@interface {}", "@map[a]b", "@range a", "@case a:", "@else {}", "@,", "@. a", "@= a", "@*a", "@...", `@"a"`, "@`a`", "@'a'", "@a; package p", "/**/ @a // b", "@(import \"a\")", "@{ package p }", "@a package p", "@type_ a b", "@Func f()")
	begins := []int{api.TPackage, api.TImport, api.TConst, api.TVar, api.TType, api.TFunc}
	for kind := api.TIdent; kind < 300; kind++ {
		l := []api.Tok{{Kind: kind, From: 3, To: 5}, {Kind: api.TIdent, From: 5, To: 6}}
		n, d, ok := decl.Region(l)
		want := api.Diag{Code: api.DSyntax, From: 3, To: 5}
		if slices.Contains(begins, kind) {
			continue
		}
		if d != want || ok {
			t.Errorf("%d: %v, %v", kind, d, ok)
		}
		expectBad(t, l, n)
	}
}

// TestTrivia: P7.1, trivia at the front and at the end are the region's, be it read or not; those between are in it.
func TestTrivia(t *testing.T) {
	for _, c := range []reads{
		{" //a\n package  p /**/ ; //b\n", "NRegion<  //a \n   NPackage<package    p>   /**/   ;   //b \n>"},
		{"\nimport  ( \"a\" //\n) ", "NRegion<\n NImport<import    ( NImp<_   \"a\"> ·   // \n )>  >"},
		{" func  f ( ) { } ", "NRegion<  NFuncD<func _    f _   NSig<NParams<(   )> _>   NBlock<{   }>>  >"},
		{" /**/ package  1 ; /**/ ", "NRegion<  /**/   NBad<package    1   ;>   /**/  >"},
		{"\n x\n\n", "NRegion<\n   NBad<x> \n \n>"},
		{"x", "NRegion<NBad<x>>"}, {"x y ", "NRegion<NBad<x   y>  >"}, {"//\nx", "NRegion<// \n NBad<x>>"},
		{" func f() { ) } //", "NRegion<  NBad<func   f ( )   {   )   }>   //>"},
		{" var a = func() { a b } ", "NRegion<  NBad<var   a   =   func ( )   {   a   b   }>  >"},
		{" var a = b.(type) ", "NRegion<  NBad<var   a   =   b . ( type )>  >"},
	} {
		l := probe.Tokens(c[0])
		n, _, ok := decl.Region(l)
		if got := probe.Whole(c[0], n); got != c[1] || ok == strings.Contains(c[1], "NBad") {
			t.Errorf("%q: %v\n got %q\nwant %q", c[0], ok, got, c[1])
		}
		if len(l) > 0 && (n.From != 0 || n.To != len(c[0])) {
			t.Errorf("%q: a region from %d to %d", c[0], n.From, n.To)
		}
	}
}

// TestNothing: P7.1, tokens none of which is significant, and none at all; that a kind is one of trivia is told by its number, as the reader does it.
func TestNothing(t *testing.T) {
	for _, c := range []struct {
		l    []api.Tok
		want api.Node
		at   int
	}{
		{nil, api.Node{Kind: api.NRegion}, 0},
		{[]api.Tok{}, api.Node{Kind: api.NRegion}, 0},
		{[]api.Tok{{Kind: api.TSpace, From: 4, To: 6}}, api.Node{Kind: api.NRegion, From: 4, To: 6, Kids: []api.Node{{Kind: api.TSpace, From: 4, To: 6}}}, 4},
		{[]api.Tok{{Kind: api.TFeed, From: 4, To: 5}, {Kind: api.TComment, From: 5, To: 9}}, api.Node{Kind: api.NRegion, From: 4, To: 9, Kids: []api.Node{{Kind: api.TFeed, From: 4, To: 5}, {Kind: api.TComment, From: 5, To: 9}}}, 4},
		{[]api.Tok{{Kind: 0, From: 7, To: 7}, {Kind: -5, From: 7, To: 8}, {Kind: 9, From: 8, To: 9}}, api.Node{Kind: api.NRegion, From: 7, To: 9, Kids: []api.Node{{Kind: 0, From: 7, To: 7}, {Kind: -5, From: 7, To: 8}, {Kind: 9, From: 8, To: 9}}}, 7},
	} {
		n, d, ok := decl.Region(c.l)
		if !probe.Same(n, c.want) || d != (api.Diag{Code: api.DSyntax, From: c.at, To: c.at}) || ok {
			t.Errorf("%v: %v, %v, %v", c.l, n, d, ok)
		}
	}
}

// TestPlaces: P7.2 and R1, places that no lexer tells are told as they are.
func TestPlaces(t *testing.T) {
	l := []api.Tok{{Kind: api.TSpace, From: 90, To: 80}, {Kind: api.TPackage, From: 9, To: 4}, {Kind: api.TIdent, From: -3, To: -8}, {Kind: api.TSemi, From: 5, To: 5}}
	clause := api.Node{Kind: api.NPackage, From: 9, To: -8, Kids: []api.Node{{Kind: api.TPackage, From: 9, To: 4}, {Kind: api.NName, From: -3, To: -8, Kids: []api.Node{{Kind: api.TIdent, From: -3, To: -8}}}}}
	want := api.Node{Kind: api.NRegion, From: 90, To: 5, Kids: []api.Node{{Kind: api.TSpace, From: 90, To: 80}, clause, {Kind: api.TSemi, From: 5, To: 5}}}
	if n, d, ok := decl.Region(l); !probe.Same(n, want) || d != (api.Diag{}) || !ok {
		t.Errorf("%v, %v, %v", n, d, ok)
	}
	l[2].Kind = api.TInt
	n, d, ok := decl.Region(l)
	if d != (api.Diag{Code: api.DSyntax, From: -3, To: -8}) || ok {
		t.Errorf("%v, %v", d, ok)
	}
	expectBad(t, l, n)
}

// TestFile: P7.1 and P7.2, a file's regions, as layers 3 and 4 tell them, one by one: what is wrong in one spoils no other one.
func TestFile(t *testing.T) {
	const s = "// a\npackage p // b\n\nimport (\n\t\"c\"\n)\n\nvar d = func() {}\nx = 1\n\n// e\nfunc (f g) h() { i() }; type j k\nfunc l( {\nfunc m() {}\n"
	want := []string{
		"NPackage<package p> ·",
		`NImport<import ( NImp<_ "c"> · )> ·`,
		"NVar<var NSpec<NList<d> _ = NList<NFn<func NSig<NParams<( )> _> NBlock<{ }>>>>> ·",
		"NBad<x = 1 ·>",
		"NFuncD<func NParams<( NParam<f g> )> h _ NSig<NParams<( )> _> NBlock<{ NExpr<NCall<i ( )>> }>> ;",
		"NType<type NTSpec<j _ k>> ·",
		"NBad<func l ( { func m ( ) { } ·>",
	}
	l, _ := lexer.Scan(s)
	regions := chunk.Cut(l)
	if len(regions) != len(want) {
		t.Fatalf("%d regions", len(regions))
	}
	for i, r := range regions {
		n, d, ok := decl.Region(l[r.From:r.To])
		isBad := strings.HasPrefix(want[i], "NBad")
		if got := probe.Show(s, n); got != row(want[i]) || ok == isBad || isBad != (d.Code == api.DSyntax) {
			t.Errorf("%s, %v, %v, want %s", got, d, ok, want[i])
		}
		if !slices.Equal(probe.Leaves([]api.Node{n}), l[r.From:r.To]) {
			t.Errorf("the leaves of %v are others", n)
		}
	}
}
