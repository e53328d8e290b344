package file_test

import (
	"math"
	"math/rand"
	"slices"
	"strconv"
	"strings"
	"testing"

	"scholiast/api"
	"scholiast/chunk"
	"scholiast/file"
	"scholiast/lexer"
	"scholiast/probe"
	"scholiast/text"
)

func opened(t *testing.T, s string) *file.File {
	t.Helper()
	f, e := file.New(s)
	if e != api.OK || f == nil {
		t.Fatalf("New: %d", e)
	}
	return f
}

// expectFile holds what a file tells against its text, as P9.4 and P9.6 have it; and that to ask lets Parsed not grow.
func expectFile(t *testing.T, f *file.File, s string) {
	t.Helper()
	parsed := f.Parsed()
	n, wrong := file.Parse(s)
	if got := f.Text(); got != s {
		t.Fatalf("the text %q, want %q", got, s)
	}
	if got := f.Tree(); !probe.Same(got, n) {
		t.Fatalf("%q:\n got %s\nwant %s", s, probe.Whole(s, got), probe.Whole(s, n))
	}
	if got := f.Diags(); !slices.Equal(got, wrong) {
		t.Fatalf("%q: %v, want %v", s, got, wrong)
	}
	if f.Parsed() != parsed {
		t.Fatalf("%q: to ask let Parsed grow from %d to %d", s, parsed, f.Parsed())
	}
}

// regions are those of a text, each as the kinds and bytes of its tokens, one by one.
func regions(s string) []string {
	l, _ := lexer.Scan(s)
	var all []string
	for _, r := range chunk.Cut(l) {
		var tokens []string
		for _, t := range l[r.From:r.To] {
			tokens = append(tokens, strconv.Itoa(t.Kind)+strconv.Quote(s[t.From:t.To]))
		}
		all = append(all, strings.Join(tokens, " "))
	}
	return all
}

// expectGrowth holds how many regions an edit had read against P9.5: at most those that the old text did not have; and at least each of these once, as a file can't know what it never read.
func expectGrowth(t *testing.T, old, s string, grew int) {
	t.Helper()
	known := regions(old)
	fresh := slices.DeleteFunc(regions(s), func(r string) bool { return slices.Contains(known, r) })
	most := len(fresh)
	slices.Sort(fresh)
	least := len(slices.Compact(fresh))
	if grew < least || grew > most {
		t.Fatalf("from %q to %q %d regions were read, want %d to %d", old, s, grew, least, most)
	}
}

// edited does edits of pieces that follow one another.
func edited(s string, l []api.Edit) string {
	for _, e := range slices.Backward(l) {
		s = s[:e.From] + e.Text + s[e.To:]
	}
	return s
}

// expectEdit does edits of a file, and holds what it tells behind them.
func expectEdit(t *testing.T, f *file.File, l ...api.Edit) {
	t.Helper()
	old, parsed := f.Text(), f.Parsed()
	given := slices.Clone(l)
	s := edited(old, l)
	if e := f.Edit(l); e != api.OK {
		t.Fatalf("%q: Edit(%v): %d", old, given, e)
	}
	if !slices.Equal(l, given) {
		t.Fatalf("%q: the edits %v have become %v", old, given, l)
	}
	clear(l)
	expectFile(t, f, s)
	expectGrowth(t, old, s, f.Parsed()-parsed)
}

// expectRefused holds that edits are refused, and that nothing has changed.
func expectRefused(t *testing.T, f *file.File, want api.Errno, l ...api.Edit) {
	t.Helper()
	s, parsed := f.Text(), f.Parsed()
	if e := f.Edit(l); e != want {
		t.Errorf("%.40q: Edit(%.80v): %d, want %d", s, l, e, want)
	}
	expectFile(t, f, s)
	if f.Parsed() != parsed {
		t.Errorf("%.40q: what was refused let Parsed grow from %d to %d", s, parsed, f.Parsed())
	}
}

const clean = `// Package p.
package p

import "q"

var x = q.C // of q

func f(a, b int) int {
	if a > b {
		return a
	}
	return b * x
}

func g() { f(1, 2) }

var y = func() int { return x }
// The end.
`

// TestNew: P9.4, what a file begins with, and how long its text may be.
func TestNew(t *testing.T) {
	for _, s := range []string{"", " ", "#", "package p", clean, "x", "\x00\xff" + mark, strings.Repeat("x", api.MaxFile), strings.Repeat(";", api.MaxFile)} {
		f := opened(t, s)
		expectFile(t, f, s)
	}
	for _, n := range []int{api.MaxFile + 1, 2 * api.MaxFile} {
		if f, e := file.New(strings.Repeat("x", n)); f != nil || e != api.ErrLong {
			t.Error(f, e)
		}
	}
}

// TestParsedNew: P9.5, behind New at least 1, if there is a region, and at most how many there are.
func TestParsedNew(t *testing.T) {
	for n := range 4 {
		each(n, "", len(snippets), func(s string) {
			f := opened(t, s)
			many := len(regions(s))
			if got := f.Parsed(); got < min(many, 1) || got > many {
				t.Fatalf("%q: %d were read of %d", s, got, many)
			}
			expectGrowth(t, "", s, f.Parsed())
		})
	}
	for _, c := range []struct {
		text string
		want int
	}{{"", 0}, {" //a\n#", 0}, {"package p", 1}, {"x y", 1}, {"package p; var x int; x\n\n", 3}, {clean, 6}} {
		if got := opened(t, c.text).Parsed(); got != c.want {
			t.Errorf("%q: %d, want %d", c.text, got, c.want)
		}
	}
}

// TestEdit: P9.4, edits singly and several at once, at the text's ends, and without effect.
func TestEdit(t *testing.T) {
	f := opened(t, "")
	expectEdit(t, f)
	expectEdit(t, f, api.Edit{})
	expectEdit(t, f, api.Edit{Text: "package p\n"})
	expectEdit(t, f, api.Edit{From: 10, To: 10, Text: "var x int\n"})
	expectEdit(t, f, api.Edit{From: 0, To: 0, Text: "//a\n"}, api.Edit{From: 8, To: 9, Text: "q"}, api.Edit{From: 20, To: 20, Text: "func f() {}\n"})
	if want := "//a\npackage q\nvar x int\nfunc f() {}\n"; f.Text() != want {
		t.Errorf("%q, want %q", f.Text(), want)
	}
	expectEdit(t, f, api.Edit{From: 3, To: 3, Text: "b"}, api.Edit{From: 3, To: 3, Text: "c"}, api.Edit{From: 3, To: 4, Text: "\n\n"}, api.Edit{From: 4, To: 4, Text: "//d\n"})
	if want := "//abc\n\n//d\npackage q\nvar x int\nfunc f() {}\n"; f.Text() != want {
		t.Errorf("%q, want %q", f.Text(), want)
	}
	expectEdit(t, f, api.Edit{From: 0, To: len(f.Text())})
	expectEdit(t, f, api.Edit{Text: clean})
	expectEdit(t, f, api.Edit{From: 0, To: len(clean), Text: clean})
	expectEdit(t, f, api.Edit{From: 0, To: len(clean), Text: strings.Repeat("f();", api.MaxFile/4)})
}

// TestRefused: P9.4 and R2, text.Apply's errors, in its order; nothing has changed.
func TestRefused(t *testing.T) {
	long := strings.Repeat("x", api.MaxFile)
	for _, s := range []string{clean, "", long} {
		n := len(s)
		f := opened(t, s)
		for _, l := range [][]api.Edit{
			{{From: -1, To: 0, Text: "a"}}, {{From: 0, To: n + 1, Text: "a"}}, {{From: n + 1, To: n + 1}}, {{From: n, To: n - 1}}, {{From: math.MinInt, To: math.MaxInt}}, {{From: math.MaxInt, To: math.MinInt}},
			{{From: 0, To: 0, Text: "package q\n"}, {From: n + 1, To: n + 1, Text: "a"}}, {{From: n + 1, To: n + 1, Text: "a"}, {From: 0, To: 0, Text: "a"}}, {{From: 0, To: n + 1, Text: long + "x"}},
		} {
			expectRefused(t, f, api.ErrRange, l...)
		}
		expectRefused(t, f, api.ErrLong, api.Edit{From: 0, To: n, Text: long + "x"})
		expectRefused(t, f, api.ErrLong, api.Edit{From: n, To: n, Text: long}, api.Edit{From: n, To: n, Text: "xy"})
	}
	f := opened(t, clean)
	expectRefused(t, f, api.ErrRange, api.Edit{From: 1, To: 2, Text: "a"}, api.Edit{From: 0, To: 1, Text: "b"})
	expectRefused(t, f, api.ErrRange, api.Edit{From: 1, To: 3, Text: "a"}, api.Edit{From: 2, To: 4, Text: "b"})
	expectEdit(t, f, api.Edit{From: 0, To: 2, Text: "////"})
}

// random are some edits, nearly all of which may be done.
func random(r *rand.Rand, n int) []api.Edit {
	var l []api.Edit
	at := 0
	for range r.Intn(4) {
		from := at + r.Intn(n-at+1)
		to := from
		if r.Intn(2) == 0 {
			to = min(n, from+r.Intn(8))
		}
		put := snippets[r.Intn(len(snippets))]
		if r.Intn(3) == 0 {
			put = put[:r.Intn(len(put)+1)]
		}
		if r.Intn(3) == 0 {
			put = ""
		}
		l = append(l, api.Edit{From: from, To: to, Text: put})
		at = to
	}
	if r.Intn(20) == 0 {
		l = append(l, api.Edit{From: r.Intn(n + 2), To: r.Intn(n + 2), Text: "y"})
	}
	return l
}

// TestHistories: P9.4 to P9.6, files that are edited again and again, and what is refused between.
func TestHistories(t *testing.T) {
	r := rand.New(rand.NewSource(31))
	done, refused := 0, 0
	for range 120 {
		f := opened(t, []string{"", clean, "package p;", snippets[r.Intn(len(snippets))]}[r.Intn(4)])
		other := opened(t, clean)
		for range 60 {
			s := f.Text()
			l := random(r, len(s))
			b, _ := text.New(s)
			if want := b.Apply(l); want != api.OK {
				refused++
				expectRefused(t, f, want, l...)
				continue
			}
			done++
			expectEdit(t, f, l...)
		}
		expectFile(t, other, clean)
	}
	if done < 5000 || refused < 100 {
		t.Errorf("%d edits were done, %d refused", done, refused)
	}
}

// TestPairs: P9.5 and P9.6, from all texts of up to three snippets to all others, all of them put anew or just what is not the same.
func TestPairs(t *testing.T) {
	var all []string
	for n := range 4 {
		each(n, "", 7, func(s string) { all = append(all, s) })
	}
	r := rand.New(rand.NewSource(32))
	for _, old := range all {
		for range 60 {
			s := all[r.Intn(len(all))]
			expectEdit(t, opened(t, old), api.Edit{From: 0, To: len(old), Text: s})
			ahead := 0
			for ahead < min(len(old), len(s)) && old[ahead] == s[ahead] {
				ahead++
			}
			behind := 0
			for behind < min(len(old), len(s))-ahead && old[len(old)-1-behind] == s[len(s)-1-behind] {
				behind++
			}
			expectEdit(t, opened(t, old), api.Edit{From: ahead, To: len(old) - behind, Text: s[ahead : len(s)-behind]})
		}
	}
}

// replaced is the edit that puts one text for the first other one.
func replaced(t *testing.T, f *file.File, old, put string) api.Edit {
	t.Helper()
	at := strings.Index(f.Text(), old)
	if at < 0 {
		t.Fatalf("%q is not in %q", old, f.Text())
	}
	return api.Edit{From: at, To: at + len(old), Text: put}
}

// TestParsedEdit: P9.5 and P9.6, how many regions edits have read again.
func TestParsedEdit(t *testing.T) {
	for _, c := range []struct {
		name, old, put string
		want           int
	}{
		{"a blank within a body", "return a\n", "return  a\n", 1},
		{"a name within a body", "f(1, 2)", "f(1, x)", 1},
		{"a body that can't be read any more", "f(1, 2)", "f(1 2)", 1},
		{"a comment ahead of the first region", "// Package p.", "// Package p, too.", 1},
		{"a comment behind a region's semicolon is the next one's", "// of q", "// not of q", 1},
		{"trivia behind the last region", "// The end.", "", 0},
		{"nothing", "func g", "func g", 0},
		{"a semicolon is written in the place of an inserted one", "import \"q\"\n", "import \"q\";\n", 1},
		{"a region is taken away, with its trivia", "\n\nfunc g() { f(1, 2) }", "", 0},
		{"a region of its own", "\n\nfunc g", "\n\nvar z int\n\nfunc g", 1},
		{"a region that stands there already", "\n\nfunc g() { f(1, 2) }", "\n\nfunc g() { f(1, 2) }\n\nfunc g() { f(1, 2) }", 0},
		{"a region becomes two", "x = q.C", "x = q; C", 2},
		{"two become one", "x = q.C // of q\n", "x = q.C (", 1},
		{"a comment takes all up to the end in", "func f", "/*func f", 0},
	} {
		f := opened(t, clean)
		parsed := f.Parsed()
		expectEdit(t, f, replaced(t, f, c.old, c.put))
		if got := f.Parsed() - parsed; got != c.want {
			t.Errorf("%s: %d, want %d", c.name, got, c.want)
		}
	}
	f := opened(t, clean)
	parsed := f.Parsed()
	expectEdit(t, f, api.Edit{From: 0, To: len(clean), Text: "\n" + clean})
	if got := f.Parsed() - parsed; got != 1 {
		t.Errorf("all put anew, a line feed ahead of it: %d", got)
	}
	expectEdit(t, f, replaced(t, f, "\n\nvar x", "\n\nvar x"), replaced(t, f, "func f", "func h"), replaced(t, f, "return x }", "return y }"))
	if got := f.Parsed() - parsed; got != 3 {
		t.Errorf("then two regions: %d", got)
	}
}

// TestByteOrderMark: P9.5, the same bytes are other tokens where a text begins; so they are another region.
func TestByteOrderMark(t *testing.T) {
	f := opened(t, mark+"package p;")
	expectEdit(t, f, api.Edit{Text: mark + "package p;"})
	expectEdit(t, f, api.Edit{Text: " "})
	expectEdit(t, f, api.Edit{To: 1})
	expectEdit(t, f, api.Edit{To: 3})
	expectEdit(t, f, api.Edit{Text: "x;"})
	expectEdit(t, f, api.Edit{To: 2})
	f = opened(t, "var x = 1;"+mark+"x")
	expectEdit(t, f, api.Edit{To: 10})
}

// TestLastRegion: P9.5, a region without a semicolon has the bytes of one that is ended by an inserted one.
func TestLastRegion(t *testing.T) {
	for _, s := range []string{"x", "x y", "func f() {", "var x = \"a", "x +", "package p"} {
		f := opened(t, s)
		expectEdit(t, f, api.Edit{From: len(s), To: len(s), Text: "\n"})
		expectEdit(t, f, api.Edit{From: len(s) + 1, To: len(s) + 1, Text: "var y int"})
		expectEdit(t, f, api.Edit{From: len(s), To: len(s) + 1, Text: ";"})
		expectEdit(t, f, api.Edit{From: len(s), To: len(s) + 10})
		expectEdit(t, f, api.Edit{Text: s + "\n"})
	}
}

// TestMoved: P9.6, what stands behind an edit moves along, and so does what is wrong with it.
func TestMoved(t *testing.T) {
	f := opened(t, "package p\nfunc f() {}\nx y\nvar z = (\n")
	parsed := f.Parsed()
	expectEdit(t, f, api.Edit{From: 20, To: 20, Text: "\n\n"})
	if got, want := f.Diags(), probe.Diags(api.DSyntax, 24, 25, api.DSyntax, 37, 37); !slices.Equal(got, want) {
		t.Errorf("%v, want %v", got, want)
	}
	if got := f.Parsed() - parsed; got != 1 {
		t.Errorf("%d regions were read again", got)
	}
	expectEdit(t, f, api.Edit{From: 0, To: 10})
	if got, want := f.Diags(), probe.Diags(api.DPackage, 0, 13, api.DSyntax, 14, 15, api.DSyntax, 27, 27); !slices.Equal(got, want) {
		t.Errorf("%v, want %v", got, want)
	}
}

// TestFileNew: R3, answers are new memory, behind edits, too, and of regions that are alike; two files have nothing in common.
func TestFileNew(t *testing.T) {
	const s = "package p\nfunc f() { x }\nfunc f() { x }\nx y\nx y\n"
	f, g := opened(t, s), opened(t, s)
	for _, l := range [][]api.Edit{nil, {{From: 9, To: 9, Text: "\n"}}, {{Text: "//a\n"}}, {{From: 0, To: 4}}, {{From: 9, To: 10}}, {{From: 20, To: 20, Text: "x"}}} {
		expectEdit(t, f, l...)
		trees := []api.Node{f.Tree(), f.Tree()}
		if probe.Shares(trees) {
			t.Errorf("%v: answers share memory", l)
		}
		wrong := f.Diags()
		probe.Spoil(trees)
		clear(wrong[:cap(wrong)])
		expectFile(t, f, f.Text())
		expectFile(t, g, s)
	}
}
