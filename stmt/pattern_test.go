package stmt_test

import (
	"regexp"
	"slices"
	"strings"
	"testing"

	"scholiast/api"
	"scholiast/expr"
	"scholiast/probe"
	"scholiast/stmt"
)

// pattern says which texts of letters are a node of a kind.
type pattern struct {
	kind int
	text string
}

// tried are texts of letters: all of so many of an alphabet, behind some and ahead of some.
type tried struct {
	alphabet   string
	n          int
	begin, end string
}

// expectPatterns holds what is read of texts against patterns of them all: of each that fits one a node of its kind, as told by a function, and of no other one anything.
func expectPatterns(t *testing.T, read procedure, word int, texts tried, told func(n api.Node) int, l []pattern) {
	t.Helper()
	var all []*regexp.Regexp
	for _, p := range l {
		all = append(all, regexp.MustCompile("^(?:"+p.text+")$"))
	}
	met := make([]int, len(l))
	wrong := 0
	probe.Every(texts.alphabet, texts.n, func(s string) {
		s = texts.begin + s + texts.end
		want := 0
		if i := slices.IndexFunc(all, func(r *regexp.Regexp) bool { return r.MatchString(s) }); i >= 0 {
			want = l[i].kind
			met[i]++
		}
		r := expr.NewReader(probe.Spelt(word, s))
		read(r)
		row, d, ok := r.Done()
		got := 0
		if ok {
			got = told(row[0])
		}
		if got != want || len(row) > 1 {
			if wrong++; wrong < 20 {
				t.Errorf("%s: %s, %v, want %s", s, probe.Word(got), d, probe.Word(want))
			}
		}
	})
	for i, p := range l {
		if met[i] == 0 {
			t.Errorf("no text fits %s", p.text)
		}
	}
}

// kindOf tells a node by its kind.
func kindOf(n api.Node) int { return n.Kind }

// with puts patterns in the place of their names, which are capital letters.
func with(text string, names ...string) string { return strings.NewReplacer(names...).Replace(text) }

// The parts of patterns: lists of names and of expressions, and statements that are simple.
const (
	manyN   = "n(,n)*"
	manyX   = "[nm](,[nm])*"
	defines = manyN + ":" + manyX
	assigns = manyX + "=" + manyX + "|[nm]\\+[nm]"
	steps   = "[nm]\\^"
	opens   = "(;|(" + defines + "|" + assigns + "|" + steps + "|[nm])[;a])"
)

// TestSimplePatterns: P6.2, all short rows of names, numbers, commas and signs.
func TestSimplePatterns(t *testing.T) {
	expectPatterns(t, stmt.Statement, 0, tried{"nm,:=+^", 6, "", ""}, kindOf, []pattern{{api.NEmpty, ""}, {api.NDefine, defines}, {api.NAssign, assigns}, {api.NInc, steps}, {api.NExpr, "[nm]"}})
}

// TestBlockPatterns: P6.3, all short rows of numbers, semicolons and braces.
func TestBlockPatterns(t *testing.T) {
	block := "{[;a]*}"
	for range 4 {
		block = with("{((m|B|)[;a])*(m|B)?}", "B", block)
	}
	expectPatterns(t, stmt.Block, 0, tried{"m;a{}", 8, "", ""}, kindOf, []pattern{{api.NBlock, block}})
}

// TestIfPatterns: P6.5, all short heads, and what stands behind the block.
func TestIfPatterns(t *testing.T) {
	expectPatterns(t, stmt.Statement, api.TIf, tried{"nm,:=^;a", 6, "w", "b"}, kindOf, []pattern{{api.NIf, "w" + opens + "?[nm]b"}})
	expectPatterns(t, stmt.Statement, api.TIf, tried{"wn;eb", 8, "wn", ""}, kindOf, []pattern{{api.NIf, with("(wHe)*wH(eb)?", "H", "(;|n;)?nb")}})
}

// TestForPatterns: P6.7, all short heads.
func TestForPatterns(t *testing.T) {
	ranged := pattern{api.NRange, "w([nm](,[nm])?=|n(,n)?:)?r[nm]b"}
	mere := pattern{api.NFor, "w[nm]?b"}
	counted := pattern{api.NFor, "w" + opens + "[nm]?[;a](" + assigns + "|" + steps + "|[nm])?b"}
	expectPatterns(t, stmt.Statement, api.TFor, tried{"nm,:=;ar", 6, "w", "b"}, kindOf, []pattern{ranged, mere, counted})
	expectPatterns(t, stmt.Statement, api.TFor, tried{"n,=r", 8, "w", "b"}, kindOf, []pattern{ranged, mere})
	expectPatterns(t, stmt.Statement, api.TFor, tried{"n:=^;", 7, "w", "b"}, kindOf, []pattern{mere, counted})
}

// TestSwitchPatterns: P6.6, all short heads.
func TestSwitchPatterns(t *testing.T) {
	opens := with("(;|(N:L|L=L|X)[;a])?", "N", manyN, "L", "[nm]g*(,[nm]g*)*", "X", "[nm]g*")
	expectPatterns(t, stmt.Statement, api.TSwitch, tried{"nm,:=;ag", 6, "w", "b"}, kindOf, []pattern{
		{api.NTSwitch, "w" + opens + "(n:)?[nm]g+b"}, {api.NSwitch, "w" + opens + "[nm]?b"},
	})
}

// TestClausePatterns: P6.6, all short rows of clauses.
func TestClausePatterns(t *testing.T) {
	expectPatterns(t, stmt.Statement, api.TSwitch, tried{"cd.n,;a", 7, "w{", "}"}, kindOf, []pattern{{api.NSwitch, "w{((cn(,n)*|d)\\.(n?[;a])*n?)*}"}})
}

// TestSpecPatterns: P6.8, all short rows of what stands in specs.
func TestSpecPatterns(t *testing.T) {
	for _, c := range []struct {
		read       procedure
		word, kind int
		spec       string
	}{
		{stmt.Const, api.TConst, api.NConst, with("(N(n?=N)?)", "N", manyN)}, {stmt.Var, api.TVar, api.NVar, with("(N(=N|n(=N)?))", "N", manyN)}, {stmt.Type, api.TType, api.NType, "(n=?n)"},
	} {
		expectPatterns(t, c.read, c.word, tried{"n,=;a)", 6, "w", ""}, kindOf, []pattern{{c.kind, "w" + c.spec}})
		expectPatterns(t, c.read, c.word, tried{"n,=;a", 7, "w(", ")"}, kindOf, []pattern{{c.kind, with("w\\((S[;a])*S?\\)", "S", c.spec)}})
	}
}

// TestTypePatterns: P6.8, all short rows of what stands in brackets behind a type's name: parameters, or what says how many elements an array has.
func TestTypePatterns(t *testing.T) {
	params := with("(P(,P)*,?)", "P", "n(,n)*~?l*n")
	second := func(n api.Node) int { return n.Kids[1].Kids[1].Kind }
	expectPatterns(t, stmt.Type, api.TType, tried{"n,~l=m", 7, "wn[", "]n"}, second, []pattern{{api.NTParams, "wn\\[" + params + "]n"}, {api.NNone, "wn\\[(l*n|m|)]n"}})
	expectPatterns(t, stmt.Type, api.TType, tried{"n,~l=m", 5, "wn=[", "]n"}, second, []pattern{{api.NNone, "wn=\\[(l*n|m|)]n"}})
	expectPatterns(t, stmt.Type, api.TType, tried{"n,~l=m", 5, "wn[", "]=n"}, second, nil)
}
