package decl_test

import (
	"math/rand"
	"regexp"
	"slices"
	"strings"
	"testing"

	"scholiast/api"
	"scholiast/decl"
	"scholiast/probe"
)

// TestGrown: P7.1 and P7.2, regions of all kinds of nodes, their tokens with trivia between: what is read is the tree.
func TestGrown(t *testing.T) {
	r := rand.New(rand.NewSource(11))
	met := map[int]int{}
	for range 30000 {
		p := &probe.Planter{R: r, At: r.Intn(2)}
		kids := p.PlantRow(probe.Grower{R: r, Blocks: true}.Region(r.Intn(5)))
		n, d, ok := decl.Region(p.L)
		if d.Code == api.DDepth {
			continue
		}
		if !ok || d != (api.Diag{}) || !slices.EqualFunc(n.Kids, kids, probe.Same) {
			t.Fatalf("%v: %v, %v, %v, want %v", p.L, n, d, ok, kids)
		}
		expectWhole(t, p.L, n)
		probe.Count(n, met)
	}
	for kind := api.NName; kind < api.NFile; kind++ {
		if word := probe.Word(kind); word != "" && met[kind] < 100 && kind != api.NFlat && kind != api.NBad && kind != api.NGuard {
			t.Errorf("%d of kind %s were tried", met[kind], word)
		}
	}
}

// TestSpoiled: P7.1, P7.2 and R1, lists of tokens that are nearly regions: what is told is lossless, and one region or another; whether it is read, and its form, hangs on the tokens' kinds alone.
func TestSpoiled(t *testing.T) {
	r := rand.New(rand.NewSource(12))
	held, failed := 0, 0
	for range 60000 {
		p := &probe.Planter{R: r}
		p.PlantRow(probe.Grower{R: r, Blocks: true, Guarded: r.Intn(5) == 0, Bare: r.Intn(2) == 0}.Region(r.Intn(4)))
		moved := probe.Spoilt(r, p.L)
		l := probe.Apart(moved)
		n, d, ok := decl.Region(l)
		if ok {
			held++
			expectWhole(t, l, n)
		} else {
			failed++
			expectBad(t, l, n)
			if d.Code != api.DSyntax || !probe.IsGuard(l, d) {
				probe.ExpectPlace(t, l, d)
			}
		}
		if m, e, same := decl.Region(moved); probe.Shape(m) != probe.Shape(n) || e.Code != d.Code || same != ok {
			t.Fatalf("%v: %v, %v; moved %v, %v", l, n, d, m, e)
		}
	}
	if held < 1000 || failed < 1000 {
		t.Errorf("%d held, %d failed", held, failed)
	}
}

// TestAny: P7.2 and R1, lists of any tokens.
func TestAny(t *testing.T) {
	r := rand.New(rand.NewSource(13))
	for range 60000 {
		l := make([]api.Tok, r.Intn(12))
		for i := range l {
			l[i] = api.Tok{Kind: r.Intn(110) - 5, From: r.Intn(9) - 4, To: r.Intn(9) - 4}
		}
		if len(l) > 0 {
			l[0].Kind = []int{api.TPackage, api.TImport, api.TFunc, api.TVar, l[0].Kind}[r.Intn(5)]
		}
		n, d, ok := decl.Region(l)
		if !slices.Equal(probe.Leaves(n.Kids), l) {
			t.Fatalf("%v: the leaves of %v are others", l, n)
		}
		if !ok {
			expectBad(t, l, n)
		}
		if ok != (d == api.Diag{}) {
			t.Fatalf("%v: %v, %v", l, d, ok)
		}
	}
}

// tried are texts of letters (see probe.Spelt), all of so many of an alphabet, behind some and ahead of some, and a pattern of those of them that are read.
type tried struct {
	alphabet   string
	n          int
	begin, end string
	pattern    string
}

// expectPattern holds which texts are regions of a kind: those that fit the pattern; all others are none.
func expectPattern(t *testing.T, word, kind int, texts tried) {
	t.Helper()
	fits := regexp.MustCompile("^(?:" + texts.pattern + ")$")
	met, wrong := 0, 0
	probe.Every(texts.alphabet, texts.n, func(s string) {
		s = texts.begin + s + texts.end
		want := fits.MatchString(s)
		if want {
			met++
		}
		l := probe.Spelt(word, s)
		n, d, ok := decl.Region(l)
		if ok != want || ok && n.Kids[0].Kind != kind || !ok && !probe.Same(n, bad(l)) {
			if wrong++; wrong < 20 {
				t.Errorf("%s: %s, %v, %v, want %v", s, probe.Shape(n), d, ok, want)
			}
		}
	})
	if met == 0 {
		t.Errorf("no text fits %s", texts.pattern)
	}
}

// nested is a pattern with itself, so many times, in the place of each @ in it; in the innermost one the least stands there.
func nested(n int, pattern, least string) string {
	all := least
	for range n {
		all = "(" + strings.ReplaceAll(pattern, "@", all) + ")"
	}
	return all
}

// TestPatterns: P7.1, all short rows of the tokens that count.
func TestPatterns(t *testing.T) {
	expectPattern(t, api.TPackage, api.NPackage, tried{"wnm,;a", 6, "", "", "wn[;a]?"})
	const spec = "(n?s)"
	expectPattern(t, api.TImport, api.NImport, tried{"ns();a", 7, "w", "", "w(" + spec + "|\\((" + spec + "[;a])*" + spec + "?\\))[;a]?"})
	expectPattern(t, api.TImport, api.NImport, tried{"nsm,;", 6, "w(", ")", "w\\((" + spec + ";)*" + spec + "?\\)"})
	params := strings.ReplaceAll("(\\((T(,T)*,?|((n,)*nT,)*(n,)*nT,?)?\\))", "T", nested(4, "n|\\(@\\)", "n"))
	function := strings.ReplaceAll("wP?nP(P|n)?b?[;a]?", "P", params)
	expectPattern(t, api.TFunc, api.NFuncD, tried{"n()b;a", 7, "w", "", function})
	expectPattern(t, api.TFunc, api.NFuncD, tried{"n(),b", 6, "w(n", "", function})
	expectPattern(t, api.TFunc, api.NFuncD, tried{"n(),b", 6, "wn(n", "", function})
	group := "n(,n)*~?l*n"
	generic := "\\[" + group + "(," + group + ")*,?\\]"
	expectPattern(t, api.TFunc, api.NFuncD, tried{"n,~lm", 6, "wn[", "]()b", "wn" + generic + "\\(\\)b"})
	expectPattern(t, api.TFunc, api.NFuncD, tried{"n,~lm", 6, "w(n)n[", "](n)", "w\\(n\\)n" + generic + "\\(n\\)"})
	block := nested(4, "{((m|@)?[;a])*(m|@)?}", "{}")
	expectPattern(t, api.TFunc, api.NFuncD, tried{"{};am", 7, "wn()", "", "wn\\(\\)" + block + "?[;a]?"})
}
