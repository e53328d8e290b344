package scope_test

import (
	"math/rand"
	"slices"
	"strconv"
	"strings"
	"testing"

	"scholiast/api"
	"scholiast/file"
	"scholiast/green"
	"scholiast/outline"
	"scholiast/probe"
	"scholiast/scope"
)

// TestLaws: P12.10 and P12.3, binds are of names' pieces, rise, and lead to a name of the same bytes, to an import, or to the universe; diagnostics rise.
func TestLaws(t *testing.T) {
	r := rand.New(rand.NewSource(23))
	for range 1000 {
		l := grown(r)
		binds, diags := told(t, l)
		texts := map[string]string{}
		for _, source := range l {
			texts[source.Name] = source.Text
		}
		for i, source := range l {
			for j, b := range binds[i] {
				name := source.Text[b.From:b.To]
				_, known := scope.Universe(name)
				switch {
				case j > 0 && binds[i][j-1].From >= b.From:
					t.Fatalf("%q: %v do not rise", source.Text, binds[i])
				case b.Kind == api.OPackage && b.File == source.Name:
				case b.File == "" && b.At == -1 && known:
				case b.File == "" || strings.FieldsFunc(texts[b.File][b.At:], func(c rune) bool { return !isWord(c) })[0] != name:
					t.Fatalf("%q: %v", l, b)
				}
			}
			for j, d := range diags[i] {
				if j > 0 && !rises(diags[i][j-1], d) {
					t.Fatalf("%q: %v do not rise", source.Text, diags[i])
				}
			}
		}
	}
}

func rises(a, b api.Diag) bool {
	return slices.Compare([]int{a.From, a.To, a.Code}, []int{b.From, b.To, b.Code}) < 0
}

// moved is a file whose declarations stand in some order: where each began first, and where it begins now.
type moved struct {
	name  string
	lines []string
	first []int // the number of each line in the file's own order
}

func (m moved) source() api.Source {
	return api.Source{Name: m.name, Text: strings.Join(m.lines, "")}
}

// where tells a place by a line's first number, and the place in it.
func (m moved) where(at int) string {
	for i, line := range m.lines {
		if at < len(line) {
			return m.name + " " + strconv.Itoa(m.first[i]) + ":" + strconv.Itoa(at)
		}
		at -= len(line)
	}
	return "none"
}

// tellMoved writes down what is told of files, in an order of its own.
func tellMoved(t *testing.T, l []moved) []string {
	t.Helper()
	var sources []api.Source
	by := map[string]moved{}
	for _, m := range l {
		sources = append(sources, m.source())
		by[m.name] = m
	}
	binds, diags := told(t, sources)
	var all []string
	for i, m := range l {
		for _, b := range binds[i] {
			to := "universe"
			if b.File != "" {
				to = by[b.File].where(b.At)
			}
			all = append(all, m.where(b.From)+" means "+to+" "+strconv.Itoa(b.Kind))
		}
		for _, d := range diags[i] {
			all = append(all, m.where(d.From)+" has "+strconv.Itoa(d.Code))
		}
	}
	slices.Sort(all)
	return all
}

// TestMoved: P12.10 and W5, in a package that declares nothing twice neither the order of files nor that of declarations changes what is told.
func TestMoved(t *testing.T) {
	r := rand.New(rand.NewSource(24))
	tried := 0
	for range 1500 {
		names := []string{"a", "b", "c", "d", "e", "f", "g", "h", "i", "j", "k", "l", "m", "n", "o"}
		var l []moved
		for i := range 2 {
			if s, ok := grownFile(r, names); ok {
				lines := strings.SplitAfter(s, "\n")
				m := moved{name: "p/" + strconv.Itoa(i) + ".go", lines: lines[:len(lines)-1]}
				for j := range m.lines {
					m.first = append(m.first, j)
				}
				l = append(l, m)
			}
		}
		if len(l) < 2 || declaresTwice(t, l) {
			continue
		}
		tried++
		want := tellMoved(t, l)
		for range 3 {
			for i := range l {
				l[i] = shuffled(r, l[i])
			}
			r.Shuffle(len(l), func(i, j int) { l[i], l[j] = l[j], l[i] })
			if got := tellMoved(t, l); !slices.Equal(got, want) {
				t.Fatalf("%v:\n%q\nwant\n%q", l, got, want)
			}
		}
	}
	if tried < 100 {
		t.Errorf("%d were tried", tried)
	}
}

// declaresTwice says whether files declare a name twice.
func declaresTwice(t *testing.T, l []moved) bool {
	t.Helper()
	met := map[string]int{}
	for _, m := range l {
		n, _ := file.Parse(m.source().Text)
		o, _ := outline.Of(m.source().Text, n)
		names, _ := scope.Declared([]api.Outline{o})
		for _, name := range names {
			met[name.Name]++
		}
	}
	for _, times := range met {
		if times > 1 {
			return true
		}
	}
	return false
}

// shuffled is a file with the same declarations in another order, behind its imports.
func shuffled(r *rand.Rand, m moved) moved {
	m.lines, m.first = slices.Clone(m.lines), slices.Clone(m.first)
	begin := slices.IndexFunc(m.lines, func(line string) bool {
		return !strings.HasPrefix(line, "package") && !strings.HasPrefix(line, "import")
	})
	if begin < 0 {
		return m
	}
	r.Shuffle(len(m.lines)-begin, func(i, j int) {
		i, j = i+begin, j+begin
		m.lines[i], m.lines[j] = m.lines[j], m.lines[i]
		m.first[i], m.first[j] = m.first[j], m.first[i]
	})
	return m
}

// odd is a tree of nodes of any kinds in one another, with pieces in the text or not.
func odd(r *rand.Rand, length, deep int) api.Node {
	kinds := []int{api.TIdent, api.TAssign, api.TDefine, 0, -1, api.NName + r.Intn(18), api.NSlice + r.Intn(15), api.NBlock + r.Intn(25), api.NPackage + r.Intn(8), api.NName, api.NNone}
	n := api.Node{Kind: kinds[r.Intn(len(kinds))], From: r.Intn(length+3) - 1}
	n.To = n.From + r.Intn(4) - 1
	if deep > 0 {
		for range r.Intn(5) {
			n.Kids = append(n.Kids, odd(r, length, deep-1))
		}
	}
	return n
}

// oddFile is a file of such trees: regions of them, within what declares.
func oddFile(r *rand.Rand, length int) api.Node {
	n := api.Node{Kind: api.NFile}
	for range r.Intn(4) {
		inside := odd(r, length, 5)
		inside.Kind = []int{inside.Kind, api.NConst, api.NVar, api.NType, api.NImport, api.NFuncD, api.NFuncD}[r.Intn(7)]
		n.Kids = append(n.Kids, api.Node{Kind: api.NRegion, Kids: []api.Node{inside}})
	}
	return n
}

// write writes over diagnostics, or binds, and what stands behind them.
func write[T any](l []T) {
	clear(l[:cap(l)])
}

// TestOdd: P12.3, R1 and R3, trees that do not fit their texts: lists come, one for each file; what is handed in stays as it is, and what is told is new.
func TestOdd(t *testing.T) {
	r := rand.New(rand.NewSource(25))
	for range 20000 {
		var l []api.Source
		var trees, before []api.Node
		for i := range r.Intn(4) {
			s := strings.Repeat("ab_ \"q\" init", r.Intn(3))
			n := oddFile(r, len(s))
			if r.Intn(9) == 0 {
				n = odd(r, len(s), 4)
			}
			l = append(l, api.Source{Name: strconv.Itoa(i), Text: s})
			trees = append(trees, n)
			before = append(before, green.Shift(n, 0))
		}
		binds, diags, f := scope.Package(l, trees)
		if f != api.OK || len(binds) != len(l) || len(diags) != len(l) {
			t.Fatalf("%q: %d, %v, %v", l, f, binds, diags)
		}
		expectApart(t, binds)
		expectApart(t, diags)
		if !slices.EqualFunc(trees, before, probe.Same) {
			t.Fatalf("%q: changed", l)
		}
	}
}

// expectApart holds that writing over one list changes none of the others.
func expectApart[T comparable](t *testing.T, lists [][]T) {
	t.Helper()
	var kept [][]T
	for _, l := range lists {
		kept = append(kept, slices.Clone(l))
	}
	for i := range lists {
		write(lists[i])
		for j := i + 1; j < len(lists); j++ {
			if !slices.Equal(lists[j], kept[j]) {
				t.Fatalf("%v: %d and %d are shared", kept, i, j)
			}
		}
	}
}

// level is a kind of nodes, and which part of such a one is gone on to.
type level struct{ kind, part int }

// nested is a tree of many nodes in one another, by these levels again and again.
func nested(many int, levels ...level) api.Node {
	n := api.Node{Kind: api.NName, To: 1}
	for i := range many {
		l := levels[len(levels)-1-i%len(levels)]
		around := api.Node{Kind: l.kind, Kids: []api.Node{{Kind: api.TAssign}}}
		for range l.part {
			around.Kids = append(around.Kids, api.Node{Kind: api.NNone})
		}
		around.Kids = append(around.Kids, n)
		n = around
	}
	return n
}

// TestDeep: R1, nodes 2^16 deep in one another.
func TestDeep(t *testing.T) {
	rows := [][]level{
		{{api.NFn, 1}, {api.NBlock, 0}, {api.NExpr, 0}},
		{{api.NFn, 0}, {api.NSig, 0}, {api.NParams, 0}, {api.NParam, 1}},
		{{api.NFor, 3}, {api.NBlock, 0}, {api.NLabel, 1}},
		{{api.NSwitch, 2}, {api.NCase, 1}, {api.NIf, 3}},
		{{api.NTSwitch, 3}, {api.NCase, 1}, {api.NRange, 2}},
		{{api.NFunc, 0}, {api.NSig, 1}},
		{{api.NStruct, 0}, {api.NField, 1}},
		{{api.NIface, 0}, {api.NMethod, 1}, {api.NSig, 1}},
	}
	for _, kind := range []int{api.NParen, api.NSel, api.NKey, api.NList, api.NBlock, api.NIf, api.NAssign, api.NDefine, api.NCase, api.NLabel} {
		rows = append(rows, []level{{kind, 0}}, []level{{kind, 1}})
	}
	for _, row := range rows {
		block := api.Node{Kind: api.NBlock, Kids: []api.Node{nested(1<<16-10, row...)}}
		function := api.Node{Kind: api.NFuncD, Kids: []api.Node{{Kind: api.NNone}, {Kind: api.NName}, {Kind: api.NNone}, {Kind: api.NSig}, block}}
		n := api.Node{Kind: api.NFile, Kids: []api.Node{{Kind: api.NRegion, Kids: []api.Node{function}}}}
		if _, _, f := scope.Package([]api.Source{{Text: "x"}}, []api.Node{n}); f != api.OK {
			t.Fatalf("%v: %d", row, f)
		}
	}
}

// TestMany: R1, a body of many names, each of which is declared and used, and hides others.
func TestMany(t *testing.T) {
	const many = 20000
	var b strings.Builder
	b.WriteString("package p; func f() {")
	for i := range many {
		name := " n" + strconv.Itoa(i/2)
		b.WriteString(" n" + strconv.Itoa(i) + " := 1; {" + name + " := 1; _ =" + name + " };")
	}
	for i := range many {
		b.WriteString(" _ = n" + strconv.Itoa(i) + ";")
	}
	b.WriteString(" }")
	binds, diags := told(t, []api.Source{{Name: "p/a.go", Text: b.String()}})
	if len(binds[0]) != 2*many || len(diags[0]) > 0 {
		t.Errorf("%d binds, %d diagnostics", len(binds[0]), len(diags[0]))
	}
}
