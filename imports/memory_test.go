package imports_test

import (
	"math/rand"
	"reflect"
	"slices"
	"testing"

	"scholiast/api"
	"scholiast/imports"
)

// roomy is a list with spare room, and something in it.
func roomy[E any](l []E, more E) []E {
	return append(slices.Clone(l), more, more)[:len(l)]
}

// spoil writes over a list, with its spare room.
func spoil[E any](l []E, over E) {
	l = l[:cap(l)]
	for i := range l {
		l[i] = over
	}
}

// roomyWorkspace is a workspace all of whose lists have spare room.
func roomyWorkspace(r *rand.Rand) ([]string, []api.Outline) {
	names, l := grown(r)
	for i := range l {
		l[i].Imports = roomy(l[i].Imports, api.Import{Path: "spare"})
	}
	return roomy(names, "spare/x.go"), roomy(l, api.Outline{Imports: []api.Import{{Path: "spare"}}})
}

// whole is all that lists have, with their spare room.
func whole(names []string, l []api.Outline) ([]string, []api.Outline) {
	l = slices.Clone(l[:cap(l)])
	for i := range l {
		l[i].Imports = slices.Clone(l[i].Imports[:cap(l[i].Imports)])
	}
	return slices.Clone(names[:cap(names)]), l
}

// TestMemory: R3, what is handed in stays as it is, and answers share no memory with it, with each other, or with later ones.
func TestMemory(t *testing.T) {
	r := rand.New(rand.NewSource(3))
	for range 2000 {
		names, l := roomyWorkspace(r)
		nameBefore, lBefore := whole(names, l)

		wantFolders := slices.Clone(imports.Folders(names))
		spoil(imports.Folders(names), "no")
		diags, _ := imports.Check(names, l)
		wantDiags, _ := imports.Check(names, l)
		expectApart(t, diags)
		spoil(diags, []api.Diag{{Code: 1}})
		first, second, _ := imports.Order(names, l)
		wantFirst, wantSecond := slices.Clone(first), slices.Clone(second)
		spoil(first, "no")
		if !slices.Equal(second, wantSecond) {
			t.Fatalf("%q: the lists share memory", names)
		}
		spoil(second, "no")

		nameNow, lNow := whole(names, l)
		if !slices.Equal(nameNow, nameBefore) || !reflect.DeepEqual(lNow, lBefore) {
			t.Fatalf("%q, %v became %q, %v", nameBefore, lBefore, nameNow, lNow)
		}
		diags, _ = imports.Check(names, l)
		first, second, _ = imports.Order(names, l)
		if !slices.Equal(imports.Folders(names), wantFolders) || !reflect.DeepEqual(diags, wantDiags) || !slices.Equal(first, wantFirst) || !slices.Equal(second, wantSecond) {
			t.Fatalf("%q, %v: other answers later", names, l)
		}
		expectNeedsNew(t, names, l, wantFolders)
	}
}

// expectApart holds that no list of diagnostics is changed by what is written over another one.
func expectApart(t *testing.T, l [][]api.Diag) {
	t.Helper()
	for i := range l {
		before := slices.Concat(slices.Concat(l[:i]...), slices.Concat(l[i+1:]...))
		spoil(l[i], api.Diag{Code: -1})
		if !slices.Equal(slices.Concat(slices.Concat(l[:i]...), slices.Concat(l[i+1:]...)), before) {
			t.Fatalf("%v: the lists share memory", l)
		}
	}
}

// expectNeedsNew holds that each answer of Needs is a list of its own.
func expectNeedsNew(t *testing.T, names []string, l []api.Outline, folders []string) {
	t.Helper()
	nameBefore, lBefore := whole(names, l)
	for _, path := range folders {
		one, _ := imports.Needs(names, l, path)
		want := slices.Clone(one)
		spoil(one, "no")
		if two, _ := imports.Needs(names, l, path); !slices.Equal(two, want) {
			t.Fatalf("%q, %q: %q, want %q", names, path, two, want)
		}
	}
	nameNow, lNow := whole(names, l)
	if !slices.Equal(nameNow, nameBefore) || !reflect.DeepEqual(lNow, lBefore) {
		t.Fatalf("%q, %v became %q, %v", nameBefore, lBefore, nameNow, lNow)
	}
}
