package imports_test

import (
	"math/rand"
	"regexp"
	"slices"
	"strings"
	"testing"

	"scholiast/api"
	"scholiast/imports"
	"scholiast/probe"
)

// expectSplit holds what a file's name is split into.
func expectSplit(t *testing.T, name, folder, base string) {
	t.Helper()
	if one, two, f := imports.Split(name); one != folder || two != base || f != api.OK {
		t.Errorf("%q: %q, %q, %d, want %q, %q", name, one, two, f, folder, base)
	}
}

// expectNoSplit holds that texts are no names of files.
func expectNoSplit(t *testing.T, names ...string) {
	t.Helper()
	for _, name := range names {
		if folder, base, f := imports.Split(name); folder != "" || base != "" || f != api.ErrName {
			t.Errorf("%q: %q, %q, %d", name, folder, base, f)
		}
	}
}

// expectFolders holds the folders of names.
func expectFolders(t *testing.T, want []string, names ...string) {
	t.Helper()
	if got := imports.Folders(names); !slices.Equal(got, want) {
		t.Errorf("%q: %q, want %q", names, got, want)
	}
}

// TestSplit: P13.1, names of files, and texts that are none.
func TestSplit(t *testing.T) {
	expectSplit(t, "a/b.go", "a", "b.go")
	expectSplit(t, "_/_.go", "_", "_.go")
	expectSplit(t, "0/9.go", "0", "9.go")
	expectSplit(t, "go/go.go", "go", "go.go")
	expectSplit(t, "az_09/b/cc/z9_.go", "az_09/b/cc", "z9_.go")
	expectSplit(t, "a/b/c/d/e/f/g.go", "a/b/c/d/e/f", "g.go")
	expectNoSplit(t, "", ".go", "/", "/.go", "a", "a.go", "a/", "a/b", "a/bgo", "a/go", "/a.go", "/a/b.go", "a/b.go/", "a//.go", "a/b/.go",
		"a/b.go.go", "a.go/b.go", "a/b.Go", "a/b.goo", "a/b.go ", " a/b.go", "a/b..go", "a/./b.go", "../b.go", "a/b.go\n", "a/b\n.go", "a/b.gox/c", "a\\b.go", "a/é.go", "a/\xff.go", "ａ/b.go")
}

// TestSplitBytes: P13.1, which bytes may stand in a word, wherever they stand.
func TestSplitBytes(t *testing.T) {
	for c := range 256 {
		s := string([]byte{byte(c)})
		word := 'a' <= c && c <= 'z' || '0' <= c && c <= '9' || c == '_'
		for _, folder := range []string{s, s + "b", "b" + s, "b" + s + "b", "b/" + s} {
			if !word && !(c == '/' && folder == "b"+s+"b") {
				expectNoSplit(t, folder+"/b.go")
			} else {
				expectSplit(t, folder+"/b.go", folder, "b.go")
			}
		}
		for _, base := range []string{s, s + "b", "b" + s, "b" + s + "b"} {
			switch {
			case word:
				expectSplit(t, "b/"+base+".go", "b", base+".go")
			case c == '/' && base == "b/b":
				expectSplit(t, "b/b/b.go", "b/b", "b.go")
			default:
				expectNoSplit(t, "b/"+base+".go")
			}
		}
	}
}

// TestSplitLength: P13.1, a name has at most MaxName bytes; a file's name that has more is refused, too.
func TestSplitLength(t *testing.T) {
	for n := 1; n < 3*api.MaxName; n++ {
		long := strings.Repeat("a", n)
		deep := strings.Repeat("a/", n)
		if n <= api.MaxName-len("a/.go") {
			expectSplit(t, "a/"+long+".go", "a", long+".go")
			expectSplit(t, long+"/a.go", long, "a.go")
		} else {
			expectNoSplit(t, "a/"+long+".go", long+"/a.go")
		}
		if 2*n <= api.MaxName-len("a.go") {
			expectSplit(t, deep+"a.go", deep[:2*n-1], "a.go")
		} else {
			expectNoSplit(t, deep+"a.go")
		}
	}
	expectNoSplit(t, strings.Repeat("a/", 1<<20)+"b.go", strings.Repeat("a", 1<<20)+"/b.go")
}

// fileName is the chapter's words of files' names.
var fileName = regexp.MustCompile(`^([a-z0-9_]+(?:/[a-z0-9_]+)*)/([a-z0-9_]+\.go)$`)

// TestSplitAll: P13.1, all short texts of the bytes that count, and their ends behind a word.
func TestSplitAll(t *testing.T) {
	files := 0
	try := func(name string) {
		m := fileName.FindStringSubmatch(name)
		if m == nil || len(name) > api.MaxName {
			expectNoSplit(t, name)
			return
		}
		files++
		expectSplit(t, name, m[1], m[2])
	}
	probe.Every("a/.go", 7, try)
	probe.Every("a0_A/.", 4, func(s string) {
		try(s + ".go")
		try("b/" + s + ".go")
		try("b" + s + "/c.go")
	})
	if files < 500 {
		t.Errorf("%d were files' names", files)
	}
}

// TestFolders: P13.1, the folders of files' names, whatever else stands among them.
func TestFolders(t *testing.T) {
	expectFolders(t, nil)
	expectFolders(t, nil, "", "a", "a.go", "A/b.go", "a/b.Go", "a//b.go")
	expectFolders(t, []string{"a"}, "a/c.go", "a/b.go", "a/c.go")
	expectFolders(t, []string{"a", "a/b", "a/b/c", "a0", "a_", "aa", "b"}, "b/x.go", "aa/x.go", "a_/x.go", "a0/x.go", "a/b/c/x.go", "a/b/x.go", "a/x.go")
	// Letters stand behind digits and the low line; a folder that only has folders in it is none.
	expectFolders(t, []string{"0", "9", "_", "a/b", "z"}, "z/x.go", "_/x.go", "a/b/x.go", "9/x.go", "0/x.go", "y/x.goo")
	long := strings.Repeat("a", api.MaxName-len("/b.go"))
	expectFolders(t, []string{long}, long+"a/b.go", long+"/b.go", long+"/bb.go")
}

// TestFoldersAny: P13.1, of names in any order, by Split.
func TestFoldersAny(t *testing.T) {
	r := rand.New(rand.NewSource(1))
	for range 3000 {
		var names, want []string
		for range r.Intn(12) {
			name := ""
			for range 1 + r.Intn(3) {
				name += []string{"a", "b", "c", "a0", "B", "", "_"}[min(r.Intn(9), 6)] + "/"
			}
			names = append(names, name+[]string{"x.go", "y.go", "z.go", "x"}[r.Intn(4)])
			if folder, _, f := imports.Split(names[len(names)-1]); f == api.OK {
				want = append(want, folder)
			}
		}
		before := slices.Clone(names)
		slices.Sort(want)
		expectFolders(t, slices.Compact(want), names...)
		if !slices.Equal(names, before) {
			t.Fatalf("%q became %q", before, names)
		}
	}
}
