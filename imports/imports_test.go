package imports_test

import (
	"slices"
	"strconv"
	"strings"
	"testing"

	"scholiast/api"
	"scholiast/file"
	"scholiast/imports"
	"scholiast/outline"
)

// opened tells the names and the outlines of files, by their names and texts in turn.
func opened(t *testing.T, l ...string) ([]string, []api.Outline) {
	t.Helper()
	var names []string
	var outlines []api.Outline
	for i := 0; i < len(l); i += 2 {
		n, wrong := file.Parse(l[i+1])
		o, f := outline.Of(l[i+1], n)
		if len(wrong) > 0 || f != api.OK {
			t.Fatalf("%s: %v, %d", l[i], wrong, f)
		}
		names = append(names, l[i])
		outlines = append(outlines, o)
	}
	return names, outlines
}

// row makes a workspace of a row of folders of one file each, rising, and of what they import: "a:b,c d:" says that a imports b and c.
func row(t *testing.T, s string) ([]string, []api.Outline) {
	t.Helper()
	var l []string
	for _, word := range strings.Fields(s) {
		folder, paths, _ := strings.Cut(word, ":")
		text := "package p\n"
		for _, path := range strings.FieldsFunc(paths, func(c rune) bool { return c == ',' }) {
			text += "import \"" + path + "\"\n"
		}
		l = append(l, folder+"/x.go", text)
	}
	return opened(t, l...)
}

// unmark takes the marks out of a text: « and » around what has a diagnostic, and its code, three digits, behind that.
func unmark(marked string) (string, []api.Diag) {
	ahead, behind, ok := strings.Cut(marked, "«")
	if !ok {
		return marked, nil
	}
	piece, behind, _ := strings.Cut(behind, "»")
	code, _ := strconv.Atoi(behind[:3])
	rest, diags := unmark(ahead + piece + behind[3:])
	return rest, slices.Insert(diags, 0, api.Diag{Code: code, From: len(ahead), To: len(ahead) + len(piece)})
}

// expectCheck holds what Check tells of files, by their names and marked texts in turn.
func expectCheck(t *testing.T, l ...string) {
	t.Helper()
	texts := slices.Clone(l)
	want := make([][]api.Diag, len(l)/2)
	for i := range want {
		texts[2*i+1], want[i] = unmark(l[2*i+1])
	}
	names, outlines := opened(t, texts...)
	got, f := imports.Check(names, outlines)
	if f != api.OK || len(got) != len(want) {
		t.Fatalf("%q: %d, %v", l, f, got)
	}
	for i := range got {
		if !slices.Equal(got[i], want[i]) {
			t.Errorf("%q: %s: %v, want %v", l, names[i], got[i], want[i])
		}
	}
}

// expectCodes holds what Check tells of a row of folders: a word for each of them, with a letter for each of its imports: P for DPath, C for DCycle, o for neither; a dash, if it has none.
func expectCodes(t *testing.T, s, letters string) {
	t.Helper()
	names, l := row(t, s)
	got, f := imports.Check(names, l)
	words := strings.Fields(letters)
	if f != api.OK || len(got) != len(words) {
		t.Fatalf("%s: %d, %v", s, f, got)
	}
	for i, o := range l {
		var want []api.Diag
		for j, m := range o.Imports {
			switch words[i][j] {
			case 'P':
				want = append(want, api.Diag{Code: api.DPath, From: m.From, To: m.To})
			case 'C':
				want = append(want, api.Diag{Code: api.DCycle, From: m.From, To: m.To})
			}
		}
		if !slices.Equal(got[i], want) {
			t.Errorf("%s: %s: %v, want %s, %v", s, names[i], got[i], words[i], want)
		}
	}
}

// expectOrder holds Order's lists of a row of folders.
func expectOrder(t *testing.T, s, first, second string) {
	t.Helper()
	one, two, f := imports.Order(row(t, s))
	if f != api.OK || strings.Join(one, " ") != first || strings.Join(two, " ") != second {
		t.Errorf("%s: %d, %v, %v, want %s, and %s", s, f, one, two, first, second)
	}
}

// expectNeeds holds what a folder of a row needs.
func expectNeeds(t *testing.T, s, path, want string) {
	t.Helper()
	names, l := row(t, s)
	got, f := imports.Needs(names, l, path)
	if f != api.OK || strings.Join(got, " ") != want {
		t.Errorf("%s: %s needs %v, %d, want %s", s, path, got, f, want)
	}
}

// TestExamples: the chapter's examples.
func TestExamples(t *testing.T) {
	expectSplit(t, "a/b/c.go", "a/b", "c.go")
	expectNoSplit(t, "c.go", "a//c.go", "A/c.go", "a/.go")
	expectFolders(t, []string{"a", "b"}, "b/x.go", "a/x.go", "b/y.go", "z")

	expectOrder(t, "a:b b:c c:", "c b a", "")
	expectNeeds(t, "a:b b:c c:", "a", "c b")
	expectNeeds(t, "a:b b:c c:", "c", "")

	expectOrder(t, "a:b b:a c:a", "", "a b c")
	expectCodes(t, "a:b b:a c:a", "C C o")

	expectCheck(t, "a/a.go", "package p", "a/b.go", "package «q»303")
}

// expectErrors holds the error that Check, Order and Needs tell of names and so many outlines, and that they tell nothing beside it.
func expectErrors(t *testing.T, want api.Errno, outlines int, names ...string) {
	t.Helper()
	l := make([]api.Outline, outlines)
	if diags, f := imports.Check(names, l); f != want || len(diags) > 0 {
		t.Errorf("Check(%q, %d): %v, %d, want %d", names, outlines, diags, f, want)
	}
	if first, second, f := imports.Order(names, l); f != want || len(first)+len(second) > 0 {
		t.Errorf("Order(%q, %d): %v, %v, %d, want %d", names, outlines, first, second, f, want)
	}
	for _, path := range []string{"a", "b", ""} {
		if needs, f := imports.Needs(names, l, path); f != want || len(needs) > 0 {
			t.Errorf("Needs(%q, %d, %q): %v, %d, want %d", names, outlines, path, needs, f, want)
		}
	}
}

// TestErrors: ErrArg of another number of outlines, then ErrName, then ErrArg of names that do not rise.
func TestErrors(t *testing.T) {
	expectErrors(t, api.ErrArg, 1)
	expectErrors(t, api.ErrArg, 0, "a/b.go")
	expectErrors(t, api.ErrArg, 1, "a/b.go", "a/c.go")
	expectErrors(t, api.ErrArg, 3, "a/b.go", "a/c.go")
	expectErrors(t, api.ErrArg, 0, "a")
	expectErrors(t, api.ErrArg, 1, "b/b.go", "a/b.go", "a")

	long := strings.Repeat("a", api.MaxName-len("/b.go"))
	for _, name := range []string{"", "a", "b.go", "a/.go", "A/b.go", "a//b.go", long + "a/b.go", strings.Repeat("a/", 1000) + "b.go"} {
		expectErrors(t, api.ErrName, 1, name)
		expectErrors(t, api.ErrName, 3, name, "a/b.go", "a/c.go")
		expectErrors(t, api.ErrName, 3, "a/b.go", name, "a/c.go")
		expectErrors(t, api.ErrName, 3, "a/b.go", "a/c.go", name)
		// Names that do not rise ahead of it make no odds.
		expectErrors(t, api.ErrName, 3, "b/b.go", "a/b.go", name)
		expectErrors(t, api.ErrName, 3, "a/b.go", "a/b.go", name)
		expectErrors(t, api.ErrName, 2, name, name)
	}

	expectErrors(t, api.ErrArg, 2, "a/b.go", "a/b.go")
	expectErrors(t, api.ErrArg, 2, "a/c.go", "a/b.go")
	expectErrors(t, api.ErrArg, 3, "a/b.go", "a/d.go", "a/c.go")
	expectErrors(t, api.ErrArg, 3, "a/c.go", "a/b.go", "a/d.go")
	// Of bytes, not of words: a dot stands ahead of a slash, and this ahead of a digit.
	expectErrors(t, api.ErrArg, 2, "a/b/c.go", "a/b.go")
	expectErrors(t, api.ErrArg, 2, "a0/b.go", "a/b.go")
	expectErrors(t, api.ErrArg, 2, "a/b0.go", "a/b/c.go")
	expectErrors(t, api.ErrArg, 2, "a/b_.go", "a/b.go")
}

// TestNoErrors: names that rise by bytes, up to the longest ones, and none at all.
func TestNoErrors(t *testing.T) {
	long := strings.Repeat("a", api.MaxName-len("/b.go"))
	for _, names := range [][]string{nil, {"a/b.go"}, {"a/b.go", "a/b/c.go", "a/b0.go", "a/b_.go", "a/bb.go", "a0/b.go", "a_/b.go", "aa/b.go"}, {long + "/b.go", long + "/c.go"}} {
		l := make([]api.Outline, len(names))
		diags, f := imports.Check(names, l)
		if f != api.OK || len(diags) != len(names) || len(slices.Concat(diags...)) > 0 {
			t.Errorf("Check(%q): %v, %d", names, diags, f)
		}
		first, second, f := imports.Order(names, l)
		if f != api.OK || !slices.Equal(first, imports.Folders(names)) || len(second) > 0 {
			t.Errorf("Order(%q): %q, %q, %d", names, first, second, f)
		}
		for _, path := range first {
			if needs, f := imports.Needs(names, l, path); f != api.OK || len(needs) > 0 {
				t.Errorf("Needs(%q, %q): %q, %d", names, path, needs, f)
			}
		}
	}
}
