package imports_test

import (
	"slices"
	"testing"

	"scholiast/api"
	"scholiast/imports"
)

// TestOrder: P13.3, each folder stands behind all that it imports, and the lowest one that might stand next does.
func TestOrder(t *testing.T) {
	expectOrder(t, "", "", "")
	expectOrder(t, "a:", "a", "")
	expectOrder(t, "a: b: c:", "a b c", "")
	expectOrder(t, "a: b:a c:b", "a b c", "")
	expectOrder(t, "a:b,c b:d c:d d:", "d b c a", "")
	expectOrder(t, "a:c,b b:d c:d d:", "d b c a", "")
	// One that may stand now stands ahead of what might long, but is higher.
	expectOrder(t, "a:c b:d c: d: e:", "c a d b e", "")
	expectOrder(t, "a:z b: c: y:a z:", "b c z a y", "")
	expectOrder(t, "a:d b:c c: d:e e: f:b,a", "c b e d a f", "")
	expectOrder(t, "a/b:b a0:a/b a_: b:", "a_ b a/b a0", "")
	// It stands behind all of what it imports, not behind the first or the last of it.
	expectOrder(t, "a:b,z,c b: c: y: z:", "b c y z a", "")
	expectOrder(t, "a:c b:c,a c:d,e,f d: e: f:", "d e f c a b", "")
}

// TestOrderOfRings: P13.3, folders in rings, and those that reach one, stand in the second list, rising; those that a ring reaches in the first one.
func TestOrderOfRings(t *testing.T) {
	expectOrder(t, "a:a", "", "a")
	expectOrder(t, "a: b:b c:", "a c", "b")
	expectOrder(t, "a:b b:c c:b,d d:e e:", "e d", "a b c")
	expectOrder(t, "a:d b:a c: d:d e:c,a f:c", "c f", "a b d e")
	expectOrder(t, "a:b b:a,c c:d d:c e:d f:", "f", "a b c d e")
	expectOrder(t, "a:b,c b:c c:d d:a,b", "", "a b c d")
	expectOrder(t, "a:b,z b: c:b,c y:b z:z", "b y", "a c z")
}

// TestOrderOfFiles: P13.3, each folder stands once, behind what any of its files imports; what is no folder is not waited for.
func TestOrderOfFiles(t *testing.T) {
	names, l := opened(t,
		"a/a.go", `package a; import "c"`, "a/b.go", `package a; import ("c"; "no"; "a/"; "")`, "a/b/a.go", `package b; import x "a"; import y "a"`,
		"a/c.go", `package x; import "d"`, "c/a.go", "package c", "d/a.go", "package d", "d/b.go", "package d",
	)
	first, second, f := imports.Order(names, l)
	if f != api.OK || !slices.Equal(first, []string{"c", "d", "a", "a/b"}) || len(second) > 0 {
		t.Errorf("%q, %q, %d", first, second, f)
	}
	l[5].Imports = append(l[5].Imports, api.Import{Path: "a"})
	first, second, f = imports.Order(names, l)
	if f != api.OK || !slices.Equal(first, []string{"c"}) || !slices.Equal(second, []string{"a", "a/b", "d"}) {
		t.Errorf("%q, %q, %d", first, second, f)
	}
}

// TestNeeds: P13.4, what a folder reaches, as Order's first list has it.
func TestNeeds(t *testing.T) {
	const all = "a:d b:c c: d:e e: f:b,a g:"
	expectNeeds(t, all, "a", "e d")
	expectNeeds(t, all, "b", "c")
	expectNeeds(t, all, "c", "")
	expectNeeds(t, all, "d", "e")
	expectNeeds(t, all, "f", "c b e d a")
	expectNeeds(t, all, "g", "")
	expectNeeds(t, "a/b:no a:c,a/b b: c:a/b", "a", "a/b c")
	expectNeeds(t, "a: b:a c:b d:c e:d", "e", "a b c d")
	expectNeeds(t, "a:b b:c c:d d:e e:", "a", "e d c b")
	// The order is that of all folders, also of those that are not needed.
	expectNeeds(t, "a:z b:a c: d:c e:d,b z:", "e", "c d z a b")
}

// TestNeedsOfRings: P13.4, a folder itself is left out, though it is in a ring; what is in a ring, or reaches one, stands behind all that does not.
func TestNeedsOfRings(t *testing.T) {
	expectNeeds(t, "a:a", "a", "")
	expectNeeds(t, "a:a,b b:", "a", "b")
	expectNeeds(t, "a:b b:a c:a", "a", "b")
	expectNeeds(t, "a:b b:a c:a", "c", "a b")
	const all = "a:b b:c,x c:b,d d:e,d e:y f:a,z,g g:z x: y: z:x"
	expectNeeds(t, all, "a", "x y e b c d")
	expectNeeds(t, all, "b", "x y e c d")
	expectNeeds(t, all, "c", "x y e b d")
	expectNeeds(t, all, "d", "y e")
	expectNeeds(t, all, "e", "y")
	expectNeeds(t, all, "f", "x y e z g a b c d")
	expectNeeds(t, all, "g", "x z")
}

// TestNeedsNone: P13.4, ErrNone of a path that is no folder of the names; the errors of the names come ahead of that.
func TestNeedsNone(t *testing.T) {
	names, l := opened(t, "a/b/x.go", `package b; import "q"`, "p/x.go", "package q")
	for _, path := range []string{"", "a", "a/", "a/b/", "/a/b", "b", "q", "A/b", "a/b/x.go", "p/x", "p ", "\xff"} {
		if needs, f := imports.Needs(names, l, path); f != api.ErrNone || len(needs) > 0 {
			t.Errorf("%q: %q, %d", path, needs, f)
		}
	}
	if needs, f := imports.Needs(nil, nil, ""); f != api.ErrNone || len(needs) > 0 {
		t.Errorf("of no files: %q, %d", needs, f)
	}
}
