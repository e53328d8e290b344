package chunk_test

import (
	"math"
	"math/rand"
	"slices"
	"strings"
	"testing"

	"scholiast/api"
	"scholiast/chunk"
	"scholiast/lexer"
	"scholiast/probe"
	"scholiast/token"
)

var (
	trivia     = []int{api.TSpace, api.TFeed, api.TComment, api.TBlock, api.TBad}
	openings   = []int{api.TLparen, api.TLbrack, api.TLbrace}
	closings   = []int{api.TRparen, api.TRbrack, api.TRbrace}
	semicolons = []int{api.TSemi, api.TAuto}
)

// letters are bytes that stand for kinds of tokens: those that count, and others.
var letters = map[byte]int{
	'(': api.TLparen, '[': api.TLbrack, '{': api.TLbrace, ')': api.TRparen, ']': api.TRbrack, '}': api.TRbrace,
	';': api.TSemi, 'a': api.TAuto, '_': api.TSpace, 'b': api.TBad, 'x': api.TIdent, 'f': api.TFunc, '0': 0,
}

// spell makes tokens of letters. Their places mean nothing, as their kinds alone count.
func spell(s string) []api.Tok {
	l := make([]api.Tok, len(s))
	for i := range l {
		kind, ok := letters[s[i]]
		if !ok {
			panic(s)
		}
		l[i] = api.Tok{Kind: kind, From: 9 - i, To: -i}
	}
	return l
}

// words makes tokens of their texts, as the chapter writes them.
func words(s string) []api.Tok {
	var l []api.Tok
	for _, w := range strings.Fields(s) {
		kind, width := token.Operator(w)
		switch {
		case w == "·":
			kind = api.TAuto
		case w == "_":
			kind = api.TSpace
		case token.Keyword(w) != 0:
			kind = token.Keyword(w)
		case width != len(w):
			kind = api.TIdent
		}
		l = append(l, api.Tok{Kind: kind})
	}
	return l
}

func isTrivia(t api.Tok) bool { return slices.Contains(trivia, t.Kind) }

func isSignificant(t api.Tok) bool { return !isTrivia(t) }

func isSemicolon(t api.Tok) bool { return slices.Contains(semicolons, t.Kind) }

// depth is the depth behind the tokens of l, if a region begins with it: by how many, at the most, openings outnumber closings in what l ends with.
func depth(l []api.Tok) int {
	most, more := 0, 0
	for _, t := range slices.Backward(l) {
		if slices.Contains(openings, t.Kind) {
			more++
		}
		if slices.Contains(closings, t.Kind) {
			more--
		}
		most = max(most, more)
	}
	return most
}

// cut is what Cut is to tell.
func cut(l []api.Tok) []api.Span {
	var all []api.Span
	from := 0
	for i, t := range l {
		if isSemicolon(t) && depth(l[from:i]) == 0 {
			all = append(all, api.Span{From: from, To: i + 1})
			from = i + 1
		}
	}
	if slices.ContainsFunc(l[from:], isSignificant) {
		all = append(all, api.Span{From: from, To: len(l)})
	}
	return all
}

// move is the spans of l, so much further on.
func move(l []api.Span, by int) []api.Span {
	moved := slices.Clone(l)
	for i := range moved {
		moved[i].From += by
		moved[i].To += by
	}
	return moved
}

// expectCut holds Cut of l against what it is to tell.
func expectCut(t *testing.T, l []api.Tok) []api.Span {
	t.Helper()
	given := slices.Clone(l)
	got := chunk.Cut(l)
	if want := cut(given); !slices.Equal(got, want) {
		t.Fatalf("Cut(%v): %v, want %v", given, got, want)
	}
	if !slices.Equal(l, given) {
		t.Fatalf("Cut(%v): the tokens have become %v", given, l)
	}
	return got
}

// spans makes spans of pairs of numbers.
func spans(l ...int) []api.Span {
	var all []api.Span
	for pair := range slices.Chunk(l, 2) {
		all = append(all, api.Span{From: pair[0], To: pair[1]})
	}
	return all
}

// TestCutExamples: P4.1, the chapter's examples.
func TestCutExamples(t *testing.T) {
	for _, c := range []struct {
		text string
		want []api.Span
	}{
		{"package a · _ func f ( ) { x ; } · _", spans(0, 3, 3, 13)},
		{"var ( a ; b ; ) ; ;", spans(0, 8, 8, 9)},
		{") ; { ;", spans(0, 2, 2, 4)},
		{"", nil},
		{"_ _", nil},
	} {
		if got := expectCut(t, words(c.text)); !slices.Equal(got, c.want) {
			t.Errorf("Cut of %s: %v, want %v", c.text, got, c.want)
		}
	}
}

// TestCutEdges: P4.1, brackets of all kinds, semicolons of both, trivia where they may stand.
func TestCutEdges(t *testing.T) {
	for _, c := range []struct {
		letters string
		want    []api.Span
	}{
		{";", spans(0, 1)}, {"a", spans(0, 1)}, {";a;", spans(0, 1, 1, 2, 2, 3)}, {"x", spans(0, 1)}, {"xx", spans(0, 2)},
		{"_;_", spans(0, 2)}, {"x_", spans(0, 2)}, {"_x__", spans(0, 4)}, {";_x_", spans(0, 1, 1, 4)}, {";b_", spans(0, 1)}, {"__b", nil}, {"0", spans(0, 1)},
		{"(;)", spans(0, 3)}, {"(;);", spans(0, 4)}, {"[a]a", spans(0, 4)}, {"{;};", spans(0, 4)}, {"([{;a;}]);x", spans(0, 10, 10, 11)},
		{"(;];x", spans(0, 4, 4, 5)}, {"{;);x", spans(0, 4, 4, 5)}, {"[;};x", spans(0, 4, 4, 5)}, {"(;[;};x", spans(0, 7)}, {"((;);x;", spans(0, 7)},
		{");", spans(0, 2)}, {"]]];x", spans(0, 4, 4, 5)}, {"}}(;x", spans(0, 5)}, {")(;);", spans(0, 5)}, {"());(;", spans(0, 4, 4, 6)},
		{"();{;", spans(0, 3, 3, 5)}, {"(;_b", spans(0, 4)}, {"();_b", spans(0, 3)}, {"};{_", spans(0, 2, 2, 4)},
	} {
		if got := expectCut(t, spell(c.letters)); !slices.Equal(got, c.want) {
			t.Errorf("Cut of %s: %v, want %v", c.letters, got, c.want)
		}
	}
}

// TestCutAll: P4.1, at all short lists of the kinds that count.
func TestCutAll(t *testing.T) {
	probe.Every("([{)]};a_x", 5, func(s string) { expectCut(t, spell(s)) })
	probe.Every("({];_x", 7, func(s string) { expectCut(t, spell(s)) })
}

// TestCutKinds: P4.1, at each kind, and at numbers that are none: what it is alone, behind a semicolon, and what it makes of those behind it.
func TestCutKinds(t *testing.T) {
	kinds := []int{math.MinInt, math.MinInt32, math.MaxInt32, math.MaxInt, 256 + api.TSemi, 1<<32 + api.TAuto}
	for kind := -100; kind <= 400; kind++ {
		kinds = append(kinds, kind)
	}
	for _, kind := range kinds {
		k, semi, opening := api.Tok{Kind: kind}, api.Tok{Kind: api.TSemi}, api.Tok{Kind: api.TLbrack}
		expectCut(t, []api.Tok{k})
		expectCut(t, []api.Tok{k, k})
		expectCut(t, []api.Tok{k, semi, k})
		expectCut(t, []api.Tok{opening, k, semi, k})
		expectCut(t, []api.Tok{k, semi, opening, k, k, semi, semi})
	}
}

// TestCutLong: P4.1 and R1, lists of a million tokens, brackets a million deep among them.
func TestCutLong(t *testing.T) {
	const n = 1 << 20
	repeat := func(s string) []api.Tok { return slices.Repeat(spell(s), n) }
	for _, c := range []struct {
		tokens []api.Tok
		many   int
		last   int // where the last region begins
	}{
		{repeat("("), 1, 0}, {repeat(")"), 1, 0}, {repeat("_"), 0, 0}, {repeat(";"), n, n - 1}, {repeat("_x;"), n, 3*n - 3},
		{slices.Concat(repeat("{"), repeat("]"), spell(";x")), 2, 2*n + 1},
		{slices.Concat(repeat("{"), repeat("]")[1:], spell(";x")), 1, 0},
		{slices.Concat(repeat("}"), spell("(;);x")), 2, n + 4},
		{slices.Concat(repeat("[;"), repeat(";)"), spell(";"), repeat("_")), 1, 0},
	} {
		got := chunk.Cut(c.tokens)
		if len(got) != c.many || len(got) > 0 && got[len(got)-1].From != c.last {
			t.Errorf("Cut of %d tokens: %d regions", len(c.tokens), len(got))
		}
	}
}

// regionsOf are the texts of the regions of a text, and what is in none.
func regionsOf(s string) ([]string, string) {
	l, _ := lexer.Scan(s)
	var all []string
	at := 0
	for _, r := range chunk.Cut(l) {
		at = l[r.To-1].To
		all = append(all, s[l[r.From].From:at])
	}
	return all, s[at:]
}

// TestCutTexts: P4.1, texts as they are written: trivia ahead of a declaration are its region's, also those of the line above; those behind the last one are in none.
func TestCutTexts(t *testing.T) {
	for _, c := range []struct {
		regions []string
		rest    string
	}{
		{[]string{"// about\npackage p", "\n\n// f is one.\nfunc f(a int,\n\tb int) {\n\tx := []int{a,\n\t\tb}\n\tg(x)\n}", "\n\nvar (\n\ta = 1\n\tb\n)", "\ntype T struct{ x int };", " const C = 1"}, "\n// end\n"},
		{[]string{"package p", " // of p\n/* of x */ var x int"}, " // of x"},
		{[]string{"package p", "\nvar s = `;\n` + \";\"", " // ; {\nvar t = ';'"}, ""},
		{[]string{"package p", "\nfunc f( {\nfunc g() {}\nvar x int\n// end\n"}, ""},
		{[]string{"package p", "\n}", "\nfunc f() {}", "\nvar x = )", "\nvar y = x"}, "\n"},
		{[]string{"package p", "\nfunc f() {\n\tif x {\n}\n\nvar y int\n"}, ""},
		{[]string{"package p;", ";", " var x int"}, "\n\n"},
		{[]string{"package p", "\nvar x = \n"}, ""},
		{nil, "\xef\xbb\xbf\r\n# // a"},
		{nil, ""},
	} {
		s := strings.Join(c.regions, "") + c.rest
		if got, rest := regionsOf(s); !slices.Equal(got, c.regions) || rest != c.rest {
			t.Errorf("%q: %q, and %q, want %q, and %q", s, got, rest, c.regions, c.rest)
		}
	}
}

// TestKindExamples: P4.2, the chapter's examples, and others.
func TestKindExamples(t *testing.T) {
	file := words("package a · _ func f ( ) { x ; } · _")
	regions := chunk.Cut(file)
	for _, c := range []struct {
		tokens []api.Tok
		region api.Span
		want   int
	}{
		{file, regions[0], api.TPackage}, {file, regions[1], api.TFunc}, {file, api.Span{To: 99}, 0},
		{file, api.Span{To: len(file)}, api.TPackage}, {file, api.Span{To: len(file) + 1}, 0}, {file, api.Span{From: 2, To: 4}, api.TAuto}, {file, api.Span{From: 3, To: 4}, 0},
		{file, api.Span{From: 4, To: 4}, 0}, {file, api.Span{From: 4, To: 3}, 0}, {file, api.Span{From: -1, To: 3}, 0}, {file, api.Span{From: 13, To: 14}, 0},
		{file[:3], api.Span{From: 3, To: 5}, 0}, {file[:3], api.Span{To: 5}, 0}, {nil, api.Span{}, 0}, {nil, api.Span{To: 1}, 0},
		{words("_ _ ; x"), api.Span{To: 4}, api.TSemi}, {spell("b_)x"), api.Span{To: 4}, api.TRparen}, {spell("_0f"), api.Span{To: 3}, 0}, {spell("_0f"), api.Span{From: 2, To: 3}, api.TFunc},
	} {
		if got := chunk.Kind(c.tokens, c.region); got != c.want {
			t.Errorf("Kind(%v, %v): %d, want %d", c.tokens, c.region, got, c.want)
		}
	}
}

// TestKindAll: P4.2, at all short lists and all pieces, in them and not.
func TestKindAll(t *testing.T) {
	places := []int{math.MinInt, -2, -1, 0, 1, 2, 3, 4, 5, 6, math.MaxInt}
	probe.Every("_b(f;", 4, func(s string) {
		l := spell(s + "xx")
		for _, from := range places {
			for _, to := range places {
				want := 0
				if 0 <= from && from <= to && to <= len(s) {
					if i := slices.IndexFunc(l[from:to], isSignificant); i >= 0 {
						want = l[from+i].Kind
					}
				}
				if got := chunk.Kind(l[:len(s)], api.Span{From: from, To: to}); got != want {
					t.Fatalf("Kind of %s, %d to %d: %d, want %d", s, from, to, got, want)
				}
			}
		}
	})
}

// TestTouchedExamples: P4.3, the chapter's examples, and lists that are no regions.
func TestTouchedExamples(t *testing.T) {
	regions := spans(0, 3, 3, 13)
	for _, c := range []struct {
		spans    []api.Span
		from, to int
		want     api.Span
	}{
		{regions, 5, 6, api.Span{From: 1, To: 2}}, {regions, 3, 3, api.Span{From: 1, To: 1}}, {regions, 13, 20, api.Span{From: 2, To: 2}}, {regions, 2, 4, api.Span{From: 0, To: 2}},
		{regions, 2, 2, api.Span{From: 0, To: 1}}, {regions, 2, 3, api.Span{From: 0, To: 1}}, {regions, 0, 0, api.Span{}}, {regions, 0, 1, api.Span{From: 0, To: 1}},
		{regions, -9, -5, api.Span{}}, {regions, -9, 99, api.Span{From: 0, To: 2}}, {regions, 12, 13, api.Span{From: 1, To: 2}}, {regions, 99, 99, api.Span{From: 2, To: 2}},
		{regions, 5, 2, api.Span{From: 1, To: 1}}, {regions, 13, 0, api.Span{From: 2, To: 2}}, {nil, 0, 9, api.Span{}},
		{spans(0, 5, 1, 2), 3, 9, api.Span{From: 0, To: 2}}, {spans(0, 1, 0, 9, 0, 1), 1, 9, api.Span{From: 1, To: 3}}, {spans(0, 9, 9, 9, 0, 9), 1, 9, api.Span{From: 0, To: 1}},
		{spans(8, 2, 7, 1, 6, 3), 2, 7, api.Span{From: 2, To: 3}}, {spans(8, 2, 7, 1, 6, 3), 0, 7, api.Span{}},
	} {
		if got := chunk.Touched(c.spans, c.from, c.to); got != c.want {
			t.Errorf("Touched(%v, %d, %d): %v, want %v", c.spans, c.from, c.to, got, c.want)
		}
	}
}

// ahead is how many spans stand at the beginning of l of which something holds.
func ahead(l []api.Span, holds func(r api.Span) bool) int {
	if i := slices.IndexFunc(l, func(r api.Span) bool { return !holds(r) }); i >= 0 {
		return i
	}
	return len(l)
}

// TestTouchedAll: P4.3, at all short lists of spans, whatever they are, and any numbers.
func TestTouchedAll(t *testing.T) {
	numbers := []int{math.MinInt, -1, 0, 1, math.MaxInt}
	var all []api.Span
	for _, from := range numbers {
		for _, to := range numbers {
			all = append(all, api.Span{From: from, To: to})
		}
	}
	expect := func(l []api.Span) {
		given := slices.Clone(l)
		for _, n := range all {
			first := ahead(l, func(r api.Span) bool { return r.To <= n.From })
			want := api.Span{From: first, To: first + ahead(l[first:], func(r api.Span) bool { return r.From < n.To })}
			if got := chunk.Touched(l, n.From, n.To); got != want || !slices.Equal(l, given) {
				t.Fatalf("Touched(%v, %d, %d): %v, want %v", given, n.From, n.To, got, want)
			}
		}
	}
	for _, x := range all {
		expect([]api.Span{x})
		for _, y := range all {
			expect([]api.Span{x, y})
			for _, z := range all {
				expect([]api.Span{x, y, z})
			}
		}
	}
}

// TestTouchedRegions: P4.3, of regions: those that have a token of the piece, and those within which it lies without one.
func TestTouchedRegions(t *testing.T) {
	probe.Every("(];_x", 6, func(s string) {
		regions := chunk.Cut(spell(s))
		for from := range len(s) + 2 {
			for to := from; to < len(s)+3; to++ {
				got := chunk.Touched(regions, from, to)
				for i, r := range regions {
					has := max(r.From, from) < min(r.To, to)
					around := r.From < from && from < r.To
					if in := got.From <= i && i < got.To; in != (has || around) {
						t.Fatalf("Touched of the regions of %s, %d, %d: %v, and %v is in it: %v", s, from, to, got, r, in)
					}
				}
			}
		}
	})
}

// TestRegionsLaws: P4.4, at all short lists.
func TestRegionsLaws(t *testing.T) {
	probe.Every("([);a_x", 6, func(s string) {
		l := spell(s)
		regions := chunk.Cut(l)
		at := 0
		for i, r := range regions {
			own := l[at:r.To]
			if r.From != at || r.To <= at || !slices.ContainsFunc(own, isSignificant) {
				t.Fatalf("Cut of %s: %v", s, regions)
			}
			var ends []int
			for n, tok := range own {
				if isSemicolon(tok) && depth(own[:n]) == 0 {
					ends = append(ends, n+1)
				}
			}
			last := i == len(regions)-1
			if !slices.Equal(ends, []int{len(own)}) && !(last && len(ends) == 0 && r.To == len(l)) {
				t.Fatalf("Cut of %s: %v ends at %v", s, r, ends)
			}
			at = r.To
		}
		if slices.ContainsFunc(l[at:], isSignificant) {
			t.Fatalf("Cut of %s: %v, without the end", s, regions)
		}
	})
}

// ended says whether the last region of l ends with a semicolon at the depth 0, at l's end.
func ended(l []api.Tok) bool {
	regions := cut(l)
	if len(regions) == 0 || !isSemicolon(l[len(l)-1]) {
		return false
	}
	last := regions[len(regions)-1]
	return last.To == len(l) && depth(l[last.From:len(l)-1]) == 0
}

// TestRegionsBehind: P4.5, at all pairs of short lists.
func TestRegionsBehind(t *testing.T) {
	var all [][]api.Tok
	probe.Every("(});a_x", 3, func(s string) { all = append(all, spell(s)) })
	held := 0
	for _, a := range all {
		if !ended(a) {
			continue
		}
		for _, b := range all {
			want := slices.Concat(chunk.Cut(a), move(chunk.Cut(b), len(a)))
			if got := chunk.Cut(slices.Concat(a, b)); !slices.Equal(got, want) {
				t.Fatalf("Cut of %v and %v: %v, want %v", a, b, got, want)
			}
			held++
		}
	}
	if held == 0 {
		t.Fatal("no pair was tried")
	}
}

// anyRegion is some tokens that are one region, and end with a semicolon.
func anyRegion(r *rand.Rand) []api.Tok {
	inside := []string{"x", "_x", "(x;x)", "{a[;]x;}", "f(_){_}", ")"}
	s := "x"
	for range r.Intn(4) {
		s += inside[r.Intn(len(inside))]
	}
	return spell(s + ";")
}

// TestRegionsEdited: P4.5, what stands in one region moves those behind it, no more, as long as its brackets and semicolons stay.
func TestRegionsEdited(t *testing.T) {
	r := rand.New(rand.NewSource(4))
	for range 20000 {
		var parts [][]api.Tok
		for range 1 + r.Intn(5) {
			parts = append(parts, anyRegion(r))
		}
		old := chunk.Cut(slices.Concat(parts...))
		if len(old) != len(parts) {
			t.Fatalf("Cut of %v: %v", parts, old)
		}
		n := r.Intn(len(parts))
		edited := slices.Clone(parts[n])
		for range 1 + r.Intn(3) {
			at := r.Intn(len(edited))
			if k := edited[at].Kind; k == api.TIdent || k == api.TSpace {
				edited = slices.Delete(edited, at, at+1)
			}
			edited = slices.Insert(edited, at, spell(strings.Repeat("x_fb", 2))[r.Intn(4):][:r.Intn(5)]...)
		}
		by := len(edited) - len(parts[n])
		want := slices.Concat(old[:n], []api.Span{{From: old[n].From, To: old[n].To + by}}, move(old[n+1:], by))
		parts[n] = edited
		if got := chunk.Cut(slices.Concat(parts...)); !slices.Equal(got, want) {
			t.Fatalf("Cut of %v: %v, want %v", parts, got, want)
		}
	}
}

// TestMemory: R3, what lies behind a list's length does not count and stays, and an answer is memory of its own.
func TestMemory(t *testing.T) {
	room := spell("x;(_;)x;x;")
	given := slices.Clone(room)
	for n := range len(room) + 1 {
		got := chunk.Cut(room[:n])
		if want := cut(given[:n:n]); !slices.Equal(got, want) || !slices.Equal(room, given) {
			t.Fatalf("Cut of %d tokens: %v, want %v; the tokens are %v", n, got, want, room)
		}
		for i := range got[:cap(got)] {
			got[:cap(got)][i] = api.Span{From: -1, To: -1}
		}
		if got := chunk.Cut(room[:n]); !slices.Equal(got, cut(given[:n:n])) {
			t.Fatalf("Cut of %d tokens, once more: %v", n, got)
		}
	}
	regions := spans(0, 3, 3, 13, 13, 15)
	if got := chunk.Touched(regions[:1], 3, 99); got != (api.Span{From: 1, To: 1}) || !slices.Equal(regions, spans(0, 3, 3, 13, 13, 15)) {
		t.Errorf("Touched of one of three spans: %v; they are %v", got, regions)
	}
}
