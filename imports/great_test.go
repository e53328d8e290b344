package imports_test

import (
	"fmt"
	"math/rand"
	"slices"
	"strings"
	"testing"

	"scholiast/api"
	"scholiast/imports"
)

// many are folders of a file each, of which the folder of each number imports those that f tells.
func many(n int, f func(i int) []int) ([]string, []api.Outline) {
	names := make([]string, n)
	l := make([]api.Outline, n)
	for i := range n {
		names[i] = numbered(i) + "/x.go"
		for _, j := range f(i) {
			l[i].Imports = append(l[i].Imports, api.Import{Path: numbered(j), From: j, To: j})
		}
	}
	return names, l
}

func numbered(i int) string { return fmt.Sprintf("f%07d", i) }

// expectMany holds what is told of many folders: the first ones of Order's lists, how many stand in them, how many imports lead into rings, and how many folders a folder needs.
func expectMany(t *testing.T, names []string, l []api.Outline, first string, good, bad, cycles int, path, needs int) {
	t.Helper()
	one, two, f := imports.Order(names, l)
	if f != api.OK || len(one) != good || len(two) != bad || slices.Concat(one, two)[0] != first {
		t.Errorf("%d, %d and %d, %s, want %d and %d, %s", f, len(one), len(two), slices.Concat(one, two)[0], good, bad, first)
	}
	diags, f := imports.Check(names, l)
	if got := len(slices.Concat(diags...)); f != api.OK || got != cycles {
		t.Errorf("%d, %d imports lead into rings, want %d", f, got, cycles)
	}
	if got, f := imports.Needs(names, l, numbered(path)); f != api.OK || len(got) != needs {
		t.Errorf("%d, %d are needed, want %d", f, len(got), needs)
	}
}

// TestGreat: R1, many folders in rows and rings, and ones that import, or are imported by, all others.
func TestGreat(t *testing.T) {
	const n = 1 << 16
	names, l := many(n, func(i int) []int { return below(n, i+1) })
	expectMany(t, names, l, numbered(n-1), n, 0, 0, 5, n-6)
	names, l = many(n, func(i int) []int { return below(n, i-1) })
	expectMany(t, names, l, numbered(0), n, 0, 0, 5, 5)
	names, l = many(n, func(i int) []int { return below(n, i-1, i+1) })
	expectMany(t, names, l, numbered(0), 0, n, 2*n-2, 5, n-1)
	names, l = many(n, func(i int) []int { return []int{(i + 1) % n} })
	expectMany(t, names, l, numbered(0), 0, n, n, 5, n-1)
	names, l = many(n, func(i int) []int { return []int{i ^ 1} })
	expectMany(t, names, l, numbered(0), 0, n, n, 5, 1)
	names, l = many(n, func(i int) []int { return below(i, 0) })
	expectMany(t, names, l, numbered(0), n, 0, 0, 5, 1)
	for i := range n {
		l[0].Imports = append(l[0].Imports, api.Import{Path: numbered(i)})
		l[i].Imports = l[i].Imports[min(i, 1):]
	}
	expectMany(t, names, l, numbered(1), n-1, 1, 1, 0, n-1)
}

// below are those of some numbers that are at least 0, and below n.
func below(n int, l ...int) []int {
	return slices.DeleteFunc(l, func(i int) bool { return i < 0 || i >= n })
}

// TestGreatWorkspaces: P13.3, each folder of many stands behind what it imports, and one that could have stood ahead of a higher one does.
func TestGreatWorkspaces(t *testing.T) {
	r := rand.New(rand.NewSource(4))
	const n = 3000
	for range 5 {
		turn := r.Perm(n)
		names, l := many(n, func(i int) []int {
			var below []int
			for range r.Intn(4) {
				if turn[i] > 0 {
					below = append(below, slices.Index(turn, r.Intn(turn[i])))
				}
			}
			return below
		})
		first, second, f := imports.Order(names, l)
		if f != api.OK || len(first) != n || len(second) > 0 {
			t.Fatalf("%d, %d and %d", f, len(first), len(second))
		}
		place := map[string]int{}
		for i, folder := range first {
			place[folder] = i
		}
		for folder, at := range place {
			from := 0
			for _, m := range l[slices.Index(names, folder+"/x.go")].Imports {
				from = max(from, place[m.Path]+1)
			}
			if from > at || from < at && slices.Max(first[from:at]) > folder {
				t.Fatalf("%s stands at %d of %q, and might from %d on", folder, at, strings.Join(first, " "), from)
			}
		}
	}
}

// TestGreatText: R1, many imports of one file, long paths, and names that are far too long.
func TestGreatText(t *testing.T) {
	const n = 1 << 18
	o := api.Outline{Package: api.Ident{Name: strings.Repeat("p", n)}}
	for i := range n {
		o.Imports = append(o.Imports, api.Import{Path: []string{"a", "b", "c"}[i%3], From: i, To: i + 1})
	}
	o.Imports = append(o.Imports, api.Import{Path: strings.Repeat("a", 1<<24)})
	names := []string{"a/x.go", "b/x.go"}
	l := []api.Outline{o, {Package: o.Package}}
	diags, f := imports.Check(names, l)
	if want := n - (n+1)/3 + 1; f != api.OK || len(diags[0]) != want || len(diags[1]) > 0 {
		t.Errorf("%d, %d, want %d", f, len(diags[0]), want)
	}
	if needs, f := imports.Needs(names, l, o.Imports[n].Path); f != api.ErrNone || len(needs) > 0 {
		t.Errorf("%d, %q", f, needs)
	}
}
