package file_test

import (
	"slices"
	"strings"
	"testing"

	"scholiast/api"
	"scholiast/chunk"
	"scholiast/decl"
	"scholiast/file"
	"scholiast/green"
	"scholiast/lexer"
	"scholiast/probe"
	"scholiast/text"
)

const mark = "\xef\xbb\xbf"

// parsed is P9.1 and P9.2, worked out from the layers below: what a region is is told by the token with which it begins.
func parsed(s string) (api.Node, []api.Diag) {
	l, wrong := lexer.Scan(s)
	n := api.Node{Kind: api.NFile, To: len(s)}
	all := append(text.Check(s), wrong...)
	regions := chunk.Cut(l)
	at, imports := 0, true
	for i, r := range regions {
		region, d, ok := decl.Region(l[r.From:r.To])
		n.Kids = append(n.Kids, region)
		begins := chunk.Kind(l, r)
		what := green.Parts(region)[0]
		isLate := !imports && begins == api.TImport
		isOdd := i == 0 && begins != api.TPackage || i > 0 && begins == api.TPackage
		switch {
		case !ok:
			all = append(all, d)
		case isOdd:
			all = append(all, probe.Diags(api.DPackage, what.From, what.To)...)
		case isLate:
			all = append(all, probe.Diags(api.DImport, what.From, what.To)...)
		}
		if ok && begins != api.TPackage && begins != api.TImport {
			imports = false
		}
		at = r.To
	}
	if len(regions) == 0 {
		all = append(all, probe.Diags(api.DPackage, 0, 0)...)
	}
	for _, t := range l[at:] {
		n.Kids = append(n.Kids, api.Node{Kind: t.Kind, From: t.From, To: t.To})
	}
	return n, all
}

// expectParse holds Parse of a text against what it is to tell, and its tree against what DOC.md says of trees.
func expectParse(t *testing.T, s string) {
	t.Helper()
	n, l := file.Parse(s)
	want, wrong := parsed(s)
	if !probe.Same(n, want) {
		t.Fatalf("%q:\n got %s\nwant %s", s, probe.Whole(s, n), probe.Whole(s, want))
	}
	if !slices.Equal(l, wrong) {
		t.Fatalf("%q: %v, want %v", s, l, wrong)
	}
	tokens, _ := lexer.Scan(s)
	if e := green.Check(s, n); e != api.OK || n.From != 0 || n.To != len(s) || !slices.Equal(probe.Leaves([]api.Node{n}), tokens) {
		t.Fatalf("%q: %s has not all its tokens", s, probe.Whole(s, n))
	}
}

// TestExamples: the chapter's examples.
func TestExamples(t *testing.T) {
	for _, c := range []struct {
		text, tree string
		wrong      []api.Diag
	}{
		{"", "NFile<>", probe.Diags(api.DPackage, 0, 0)},
		{"package p", "NFile<NRegion<NPackage<p>>>", nil},
		{"var x int; package p", "NFile<NRegion<NVar<NSpec<NList<x> int _>>> NRegion<NPackage<p>>>", probe.Diags(api.DPackage, 0, 9, api.DPackage, 11, 20)},
		{`package p; var x int; import "a"`, `NFile<NRegion<NPackage<p>> NRegion<NVar<NSpec<NList<x> int _>>> NRegion<NImport<NImp<_ "a">>>>`, probe.Diags(api.DImport, 22, 32)},
		{"package p; func f( {\n", "NFile<NRegion<NPackage<p>> NRegion<NBad<>>>", probe.Diags(api.DSyntax, 19, 20)},
	} {
		n, l := file.Parse(c.text)
		if got := probe.Parts(c.text, n); got != c.tree || !slices.Equal(l, c.wrong) {
			t.Errorf("%q:\n got %s, %v\nwant %s, %v", c.text, got, l, c.tree, c.wrong)
		}
	}
	n, _ := file.Parse("package p")
	if got := probe.Whole("package p", n); got != "NFile<NRegion<NPackage<package   p> ·>>" {
		t.Error(got)
	}
}

// TestTree: P9.1, the regions with their trivia, and behind them the tokens that are in none.
func TestTree(t *testing.T) {
	for _, c := range []probe.Reads{
		{"", "NFile<>"},
		{" ", "NFile< >"},
		{"\n//a\n#", "NFile<\n //a \n #>"},
		{";", "NFile<NRegion<NBad<;>>>"},
		{";;\n", "NFile<NRegion<NBad<;>> NRegion<NBad<;>> \n>"},
		{"package p;", "NFile<NRegion<NPackage<package   p> ;>>"},
		{"package p\n", "NFile<NRegion<NPackage<package   p> ·> \n>"},
		{"package p // a\n\n", "NFile<NRegion<NPackage<package   p> ·>   // a \n \n>"},
		{"//a\npackage p\n//b\nvar x y;//c", "NFile<NRegion<//a \n NPackage<package   p> ·> NRegion<\n //b \n NVar<var   NSpec<NList<x>   y _>> ;> //c>"},
		{mark + "package p" + mark, "NFile<NRegion<" + mark + " NPackage<package   p> ·> " + mark + ">"},
		{"func f( {/**/", "NFile<NRegion<NBad<func   f (   {> /**/>>"},
		{"x y\n#", "NFile<NRegion<NBad<x   y ·>> \n #>"},
		{"var x = func() { a }\n", "NFile<NRegion<NVar<var   NSpec<NList<x> _   =   NList<NFn<func NSig<NParams<( )> _>   NBlock<{   NExpr<a>   }>>>>> ·> \n>"},
		{"\x00", "NFile<\x00>"},
	} {
		n, _ := file.Parse(c[0])
		if got := probe.Whole(c[0], n); got != c[1] {
			t.Errorf("%q:\n got %q\nwant %q", c[0], got, c[1])
		}
		expectParse(t, c[0])
	}
}

// TestDiags: P9.2, what is wrong with bytes, then with tokens, then with regions, each by itself and where it stands.
func TestDiags(t *testing.T) {
	for _, c := range []struct {
		text string
		want []api.Diag
	}{
		// Clean ones.
		{"package p", nil}, {"package p; import \"a\"; import (\"b\"); import (); const c = 1; var x int; type t int; func f() {}", nil}, {"package p; var x int; func f() {}; const c = 1", nil},
		// No region: behind what is wrong with bytes and tokens.
		{"", probe.Diags(api.DPackage, 0, 0)}, {" \n//package p\n", probe.Diags(api.DPackage, 0, 0)}, {mark, probe.Diags(api.DPackage, 0, 0)}, {"  #\xff", probe.Diags(api.DUTF8, 3, 4, api.DChar, 2, 3, api.DPackage, 0, 0)}, {"/*package p", probe.Diags(api.DComment, 0, 11, api.DPackage, 0, 0)},
		// The first region: the node's piece, without its trivia and its semicolon.
		{" var x int ; ", probe.Diags(api.DPackage, 1, 10)}, {"//a\nimport \"a\" // b\n", probe.Diags(api.DPackage, 4, 14)}, {"func f() {\n}\n", probe.Diags(api.DPackage, 0, 12)}, {"const ()", probe.Diags(api.DPackage, 0, 8)}, {"type t int", probe.Diags(api.DPackage, 0, 10)},
		{"import \"a\"; package p; import \"b\"", probe.Diags(api.DPackage, 0, 10, api.DPackage, 12, 21)},
		// Another package clause.
		{"package p; package p", probe.Diags(api.DPackage, 11, 20)}, {"package p\n\npackage q // a\nvar x int\n/**/package r;", probe.Diags(api.DPackage, 11, 20, api.DPackage, 40, 49)}, {"var x int; var y int; package p", probe.Diags(api.DPackage, 0, 9, api.DPackage, 22, 31)},
		// The first region can't be read: that alone is told of it; a package clause behind it is not the first region.
		{"x; package p", probe.Diags(api.DSyntax, 0, 1, api.DPackage, 3, 12)}, {"package 1; package p", probe.Diags(api.DSyntax, 8, 9, api.DPackage, 11, 20)}, {";package p", probe.Diags(api.DSyntax, 0, 1, api.DPackage, 1, 10)}, {"x", probe.Diags(api.DSyntax, 0, 1)},
		// Imports behind a declaration, not only directly; what can't be read is not asked, nor are package clauses and imports.
		{"package p; var x int; import \"a\"; import \"b\"", probe.Diags(api.DImport, 22, 32, api.DImport, 34, 44)}, {"package p; import \"a\"; func f() {}; import \"b\"; type t int; import (\n\"c\"; x \"d\"); ", probe.Diags(api.DImport, 36, 46, api.DImport, 60, 80)},
		{"package p; const c = 1; import \"a\"", probe.Diags(api.DImport, 24, 34)}, {"package p; type t int; import \"a\"", probe.Diags(api.DImport, 23, 33)}, {"package p; func f(); import \"a\"", probe.Diags(api.DImport, 21, 31)}, {"var x int; import \"a\"", probe.Diags(api.DPackage, 0, 9, api.DImport, 11, 21)},
		{"package p; x; import \"a\"", probe.Diags(api.DSyntax, 11, 12)}, {"package p; var x 1; import \"a\"", probe.Diags(api.DSyntax, 17, 18)}, {"package p; import a; import \"a\"", probe.Diags(api.DSyntax, 19, 20)}, {"package p; package q; import \"a\"", probe.Diags(api.DPackage, 11, 20)}, {"package p; import \"a\"; package q; import \"b\"", probe.Diags(api.DPackage, 23, 32)},
		{"package p; var x int; x; import \"a\"", probe.Diags(api.DSyntax, 22, 23, api.DImport, 25, 35)}, {"package p; var x int; import a; import \"b\"", probe.Diags(api.DSyntax, 30, 31, api.DImport, 32, 42)}, {"import \"a\"; import \"b\"", probe.Diags(api.DPackage, 0, 10)},
		// Regions that can't be read: of each what is wrong with it first, and where it stands.
		{"package p; var x int y; func g() {}; const c 1 2\nimport", probe.Diags(api.DSyntax, 21, 22, api.DSyntax, 45, 46, api.DSyntax, 55, 55)}, {"package p; x; x; x", probe.Diags(api.DSyntax, 11, 12, api.DSyntax, 14, 15, api.DSyntax, 17, 18)}, {"package p\nfunc f() { x x }\nfunc f() { x x }\n", probe.Diags(api.DSyntax, 23, 24, api.DSyntax, 40, 41)}, {"package p; var x = y.(type)", probe.Diags(api.DSyntax, 19, 27)},
		{"package p; var x = " + strings.Repeat("(", 101) + "y" + strings.Repeat(")", 101), probe.Diags(api.DDepth, 119, 120)},
		// Bytes, tokens, regions: in this order, whatever stands first.
		{"x\n'a\n\x00\n#\n", probe.Diags(api.DNul, 5, 6, api.DRune, 2, 4, api.DChar, 7, 8, api.DSyntax, 0, 1, api.DSyntax, 2, 4)},
		{"package p\nvar x = 1a\nvar y = \"\\q\"\n\xff" + mark, probe.Diags(api.DUTF8, 34, 35, api.DMark, 35, 38, api.DNumber, 18, 20, api.DEscape, 30, 31)},
	} {
		_, got := file.Parse(c.text)
		if !slices.Equal(got, c.want) {
			t.Errorf("%q:\n got %v\nwant %v", c.text, got, c.want)
		}
		expectParse(t, c.text)
	}
}

// snippets are texts of which others are put together: regions of all kinds, and what spoils the regions beside it.
var snippets = []string{"package p;", "import \"a\";", "var x int\n", "func f() {\nx = 1\n}\n", "x;", " ", "//a\n", "{", "}", "#", "\"", "`", "/*", "*/", mark}

// TestParseAll: P9.1 to P9.3, at all texts of up to four snippets.
func TestParseAll(t *testing.T) {
	codes := map[int]int{}
	for n := range 5 {
		each(n, "", len(snippets), func(s string) {
			expectParse(t, s)
			_, l := file.Parse(s)
			for _, d := range l {
				codes[d.Code]++
			}
		})
	}
	for _, code := range []int{api.DMark, api.DChar, api.DComment, api.DString, api.DSyntax, api.DPackage, api.DImport} {
		if codes[code] < 100 {
			t.Errorf("%d of the code %d were tried", codes[code], code)
		}
	}
}

// each calls f with all texts that begin so, and go on with n of so many snippets.
func each(n int, s string, many int, f func(s string)) {
	if n == 0 {
		f(s)
		return
	}
	for _, next := range snippets[:many] {
		each(n-1, s+next, many, f)
	}
}

// TestParseLong: P9.3 is of texts of any length.
func TestParseLong(t *testing.T) {
	s := "package p\n" + strings.Repeat("func f(x int) int {\n\treturn x\n}\n\nx\n", 3000)
	expectParse(t, s)
	expectParse(t, strings.Repeat(";", 3*api.MaxFile))
	expectParse(t, "package p; var x = "+strings.Repeat("(", 1<<16))
	expectParse(t, strings.Repeat(" ", 3*api.MaxFile))
	expectParse(t, "package p\nvar x "+strings.Repeat("y", 3*api.MaxFile)+"\nimport \"a\"\n")
}

// TestParseNew: R3, answers are new memory, also of regions that are alike.
func TestParseNew(t *testing.T) {
	const s = "package p\nfunc f() { x }\nfunc f() { x }\nx y\nx y\nimport"
	n, l := file.Parse(s)
	want, wrong := parsed(s)
	if probe.Shares([]api.Node{n}) {
		t.Error("two lists of one answer share memory")
	}
	again, more := file.Parse(s)
	if probe.Shares([]api.Node{n}, []api.Node{again}) {
		t.Error("two answers share memory")
	}
	probe.Spoil([]api.Node{n})
	clear(l[:cap(l)])
	if !probe.Same(again, want) || !slices.Equal(more, wrong) {
		t.Error("an answer changed another one")
	}
	if n, l := file.Parse(s); !probe.Same(n, want) || !slices.Equal(l, wrong) {
		t.Error("an answer changed a later one")
	}
}
