package imports_test

import (
	"slices"
	"testing"

	"scholiast/api"
	"scholiast/imports"
)

// TestClause: P13.2, each file's package is to have the name that the first file of its folder has.
func TestClause(t *testing.T) {
	expectCheck(t, "a/a.go", "package p", "a/b.go", "package p")
	expectCheck(t, "a/a.go", "package p", "b/a.go", "package q", "c/a.go", "package a")
	expectCheck(t, "a/a.go", "package p", "a/b.go", "\npackage  «pqr»303", "a/c.go", "package p", "a/d.go", "package «P»303")
	// The first file counts, not the one ahead, nor what most of them say.
	expectCheck(t, "a/a.go", "package p", "a/b.go", "package «q»303", "a/c.go", "package «q»303")
	// Files of other folders may stand between those of one.
	expectCheck(t, "a/b.go", "package p", "a/b/a.go", "package q", "a/b/d.go", "package «p»303", "a/c.go", "package «q»303", "a/d.go", "package p", "a0/b.go", "package q")
	expectCheck(t, "a/b.go", "package b", "a/b/a.go", "package b", "a/c.go", "package «a»303", "b/a.go", "package a")
}

// TestPath: P13.2, an import is to be of a folder of the names.
func TestPath(t *testing.T) {
	expectCodes(t, "a:b b:", "o -")
	expectCodes(t, "a:c b:", "P -")
	expectCodes(t, "a:d,b,e,c b:c,d c:", "PoPo oP -")
	expectCodes(t, "a/b:b b:a c:a/b,a/b/,a", "o P oPP")
	expectCodes(t, "a:B,b/,/b,b/x,b/x.go,x,bb,b. b:", "PPPPPPPP -")
	expectCheck(t, "a/a.go", `package a; import« ""»301; import ("b";« " b"»301; b "b")`, "b/a.go", "package b")
	// What the literal says counts, not how it is written, nor the name ahead of it; alike imports have a diagnostic each.
	expectCheck(t, "a/a.go", "package a; import («b \"c\"»301; c \"b\";« `c`»301; x `b`; b \"\\x62\";« \"c\"»301;« \"c\"»301; _ \"b\"; «_ \"c\"»301)", "b/a.go", "package b")
	// A package's name is no path.
	expectCheck(t, "a/a.go", `package a; import« "p"»301`, "b/a.go", "package p")
}

// TestCycle: P13.2, an import leads into a ring if what it imports is the folder itself, or reaches it.
func TestCycle(t *testing.T) {
	expectCodes(t, "a:a", "C")
	expectCodes(t, "a:a,b,a b:", "CoC -")
	expectCodes(t, "a:b b:a", "C C")
	expectCodes(t, "a:b b:c c:d d:e e:a", "C C C C C")
	// What leads to a ring, or stands behind one, is not in it.
	expectCodes(t, "a:b b:c c:b,d d:", "o C Co -")
	expectCodes(t, "a:a,b b:b", "Co C")
	// A way between two rings; one within a ring; two rings at one folder.
	expectCodes(t, "a:b b:a,c c:d d:c", "C Co C C")
	expectCodes(t, "a:b,c b:c c:d d:a,b", "CC C C CC")
	expectCodes(t, "a:b,c,d b:a c:a d:e e:", "CCo C C o -")
	// Imports that lead back by another one's way, but not to the folder itself.
	expectCodes(t, "a:b,c b:c c:b", "oo C C")
	expectCodes(t, "a:d b:d c:d d:e e:d", "o o o C C")
	expectCodes(t, "a: b:c c:d d:a", "- o o o")
	// No way leads over what is no folder.
	expectCodes(t, "a:x b:a x/y:a,b", "P o oo")
}

// TestCycleOfFiles: P13.2, a folder imports what any of its files does, and each file's own imports have the diagnostics.
func TestCycleOfFiles(t *testing.T) {
	expectCheck(t,
		"a/a.go", "package a; import \"c\"", "a/b.go", "package a; import« \"b\"»302; import \"c\"",
		"b/a.go", "package b", "b/b.go", "package b; import« \"a\"»302; import« \"b\"»302; import« \"d\"»301",
		"c/a.go", "package c",
	)
	expectCheck(t, "a/a.go", "package a; import« `b`»302; import «x \"\\x62\"»302; import «y \"b\"»302", "b/a.go", "package b; import («a \"a\"»302)")
	// Clauses come ahead of imports, and have nothing to do with rings.
	expectCheck(t, "a/a.go", "package a; import« \"a/b\"»302", "a/b.go", "package «b»303; import« \"a\"»302; import« \"b\"»301", "a/b/c.go", "package b; import« \"a\"»302")
}

// TestOddOutlines: P13.2, pieces are told as they are, in the order in which they come, whatever they are; and names of packages that no text has.
func TestOddOutlines(t *testing.T) {
	names := []string{"a/a.go", "a/b.go", "a/c.go", "b/a.go"}
	l := []api.Outline{
		{Imports: []api.Import{{Name: "x", Path: "c", From: 9, To: 3}, {Path: "c", From: -5, To: 1 << 40}, {Path: "b"}, {Path: "a", From: 9, To: 3}, {From: 2, To: 2}}},
		{Package: api.Ident{Name: "\xff", From: 70, To: -7}, Imports: []api.Import{{Path: "a", From: 1, To: 2}, {Path: "a", From: 1, To: 2}}},
		{Package: api.Ident{From: 3, To: 4}},
		{Package: api.Ident{Name: "_", From: 3, To: 4}},
	}
	got, f := imports.Check(names, l)
	want := [][]api.Diag{
		{{Code: api.DPath, From: 9, To: 3}, {Code: api.DPath, From: -5, To: 1 << 40}, {Code: api.DCycle, From: 9, To: 3}, {Code: api.DPath, From: 2, To: 2}},
		{{Code: api.DClause, From: 70, To: -7}, {Code: api.DCycle, From: 1, To: 2}, {Code: api.DCycle, From: 1, To: 2}},
		nil,
		nil,
	}
	if f != api.OK || !slices.EqualFunc(got, want, slices.Equal) {
		t.Errorf("%v, %d, want %v", got, f, want)
	}
}
