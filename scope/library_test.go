package scope_test

import (
	"go/ast"
	"go/parser"
	"go/token"
	"go/types"
	"math/rand"
	"slices"
	"strings"
	"testing"

	"scholiast/api"
)

// writer writes functions of a kind of which the library tells the same as the chapter, if all that is wrong is wrong with names: all values are ints.
type writer struct {
	*rand.Rand
	names []string
}

func (w writer) name() string { return w.names[w.Intn(len(w.names))] }

func (w writer) one(l ...string) string { return l[w.Intn(len(l))] }

func (w writer) label() string { return w.one("K", "L", "M", "N", "O", "P", "Q", "R", "S", "T") }

// value is an expression of an int.
func (w writer) value(deep int) string {
	if deep <= 0 {
		return w.one(w.names[0], w.names[len(w.names)/2], "1")
	}
	switch name := w.names[0]; w.Intn(8) {
	case 0:
		return w.value(deep-1) + " + " + w.value(deep-1)
	case 1:
		return "func(" + w.name() + ", " + w.name() + " int) (" + w.name() + " int) { " + w.body(deep-1) + " return 1 }(" + w.value(deep-1) + ", " + w.value(deep-1) + ")"
	case 2:
		return "[]int{" + w.value(deep-1) + ", 9: " + w.value(deep-1) + "}[" + w.value(deep-1) + "]"
	case 3:
		return "struct{ " + name + " int }{}." + name
	case 4:
		return "q.X"
	}
	return w.value(0)
}

// body are statements, with a semicolon behind each.
func (w writer) body(deep int) string {
	s := ""
	for range w.Intn(4) {
		s += w.statement(deep) + "; "
	}
	return s
}

func (w writer) statement(deep int) string {
	a, b, x, y := w.name(), w.name(), w.value(deep-1), w.value(deep-1)
	if deep > 0 && w.Intn(3) > 0 {
		return w.compound(deep-1, a, b, x, y)
	}
	switch w.Intn(11) {
	case 0:
		return a + " := " + x
	case 1:
		return a + ", " + b + " := " + x + ", " + y
	case 2:
		return "var " + a + ", " + b + " int = " + x + ", " + y
	case 3:
		return "var " + a + " int"
	case 4:
		return "const " + a + " = 1"
	case 5:
		return "type " + w.one("_", "_", "_", a) + " struct { " + b + " func(" + b + " int) int }"
	case 6:
		return a + ", " + b + " = " + x + ", " + y
	case 7:
		return a + w.one(" += "+x, "++", " = "+y)
	case 8:
		return "print(" + a + ", " + x + ")"
	}
	return "_ = " + x
}

// compound is a statement with others in it.
func (w writer) compound(deep int, a, b, x, y string) string {
	block := "{ " + w.body(deep) + "}"
	head := w.one("", a+" := "+x+"; ", a+" = "+x+"; ")
	// The library wants a name here, not just a blank one.
	c := w.names[w.Intn(2)]
	label := w.one("", "", w.label()+": ")
	switch w.Intn(9) {
	case 0:
		return block
	case 1:
		return "if " + head + y + " > 1 " + block + w.one("", " else { "+w.body(deep)+"}", " else if "+b+" := 1; "+b+" > 0 { }")
	case 2:
		return label + "for " + w.one(a+" := "+x, a+" = "+x, "") + "; " + y + " > 0; " + w.one(b+"++", "") + " " + block
	case 3:
		return label + "for " + w.one(c+", "+b+" := range []int{"+x+"}", c+" := range "+x, a+", _ = range []int{"+x+"}", "range "+y) + " " + block
	case 4:
		return label + "switch " + head + y + " { case " + x + ": " + w.body(deep) + "default: " + w.body(deep) + "}"
	case 5:
		return label + "switch " + head + w.one("", c+" := ") + "any(" + y + ").(type) { case int: " + w.body(deep) + "default: " + w.one("", "print("+c+")") + "}"
	case 6:
		return label + "for { if " + x + " > 0 { " + w.one("break", "continue") + " " + w.label() + " }; " + w.body(deep) + "}"
	}
	return w.one("if 1 > 0 ", "for ", "") + block
}

// file is a file of such functions.
func (w writer) file() string {
	s := "package p\nimport q \"x/q\"\n"
	if w.Intn(5) > 0 {
		s += "var " + strings.Join(w.names, ", ") + " int\n"
	}
	for range 1 + w.Intn(3) {
		s += w.one(
			"var "+w.name()+" int = "+w.value(1)+"\n",
			"const "+w.name()+" = 1\n",
			"func _("+w.name()+" int) ("+w.name()+", _ int) { "+w.body(3)+" return 1, 2 }\n",
			"func (T) _("+w.name()+" int) { "+w.body(4)+"}\n",
		)
	}
	return s + "type T int\n"
}

// none is the code of a definition that declares nothing, which the library tells at another place.
const none = -1

// checked is what the library tells of a file.
type checked struct {
	set   *token.FileSet
	uses  map[int]int // names that are used, and where what they mean is declared; -1 is the universe
	diags []api.Diag
	twice int  // how many names stand twice in a definition, of which it may say nothing more
	plain bool // whether nothing else is wrong
}

// Import is an import's package, which has just an int.
func (c *checked) Import(path string) (*types.Package, error) {
	p := types.NewPackage(path, "q")
	p.Scope().Insert(types.NewVar(token.NoPos, p, "X", types.Typ[types.Int]))
	p.MarkComplete()
	return p, nil
}

// check asks the library of a file.
func check(t *testing.T, s string) *checked {
	t.Helper()
	c := &checked{set: token.NewFileSet(), uses: map[int]int{}, plain: true}
	f, fault := parser.ParseFile(c.set, "a.go", s, parser.SkipObjectResolution)
	if fault != nil {
		t.Fatalf("%s: %v", s, fault)
	}
	info := &types.Info{Uses: map[*ast.Ident]types.Object{}}
	conf := types.Config{Importer: c, Error: func(err error) { c.fault(err.(types.Error)) }}
	conf.Check("p", c.set, []*ast.File{f}, info)
	for name, o := range info.Uses {
		switch o := o.(type) {
		case *types.Label:
			continue
		case *types.Var:
			if o.IsField() || o.Name() == "X" {
				continue
			}
		}
		at := -1
		if o.Pos() != token.NoPos {
			at = c.set.Position(o.Pos()).Offset
		}
		c.uses[c.set.Position(name.Pos()).Offset] = at
	}
	return c
}

// fault takes what the library says is wrong: with names, or with something else, which may leave more out.
func (c *checked) fault(e types.Error) {
	d := api.Diag{From: c.set.Position(e.Pos).Offset}
	label := strings.HasPrefix(e.Msg, "label ") || strings.Contains(e.Msg, " label ")
	switch ends := func(s string) bool { return strings.HasSuffix(e.Msg, s) }; {
	case label && ends("declared and not used"):
		d.Code = api.DLabels
	case label && !ends("already declared"):
		d.Code = api.DLabel
	case ends("imported and not used"):
		d.Code = api.DImports
	case ends("declared and not used") || strings.HasPrefix(e.Msg, "declared and not used"):
		d.Code = api.DUnused
	case ends("redeclared in this block"):
		d.Code = api.DAgain
	case ends("repeated on left side of :="):
		d.Code = api.DAgain
		c.twice++
	case ends("no new variables on left side of :="):
		d.Code = none
	case strings.HasPrefix(e.Msg, "\t"):
		return
	case strings.HasPrefix(e.Msg, "undefined: "):
		// What leans on it may be left out.
		d.Code, c.plain = api.DUndef, false
	default:
		c.plain = false
		return
	}
	c.add(d)
}

// add keeps a diagnostic: what is gone through by a range may be told of twice.
func (c *checked) add(d api.Diag) {
	if !slices.Contains(c.diags, d) {
		c.diags = append(c.diags, d)
	}
}

// expectUses holds binds against what the library says that names mean.
func (c *checked) expectUses(t *testing.T, s string, binds []api.Bind) {
	t.Helper()
	met := 0
	for _, b := range binds {
		at, ok := c.uses[b.From]
		if ok && at != b.At && b.Kind != api.OPackage {
			t.Fatalf("%s: %v, want %d", s, b, at)
		}
		if ok {
			met++
		}
	}
	if met != len(c.uses) {
		t.Fatalf("%s: %d binds, want those of %v", s, met, c.uses)
	}
}

// begins are diagnostics without their ends, which the library does not tell.
func begins(diags []api.Diag) []api.Diag {
	var l []api.Diag
	for _, d := range diags {
		l = append(l, api.Diag{Code: d.Code, From: d.From})
	}
	return l
}

// expectDiags holds diagnostics against the library's. It tells those of definitions that declare nothing at another place, and another thing of labels that are named where they may not be.
func (c *checked) expectDiags(t *testing.T, s string, diags []api.Diag) {
	t.Helper()
	told := len(c.diags)
	c.diags = slices.DeleteFunc(c.diags, func(d api.Diag) bool { return d.Code == none })
	least := told - len(c.diags)
	most := least + c.twice
	jumps := slices.ContainsFunc(diags, func(d api.Diag) bool { return d.Code == api.DLabel })
	for _, d := range begins(diags) {
		switch i := slices.Index(c.diags, d); {
		case i >= 0:
			c.diags = slices.Delete(c.diags, i, i+1)
		case d.Code == api.DAgain && most > 0:
			least--
			most--
		case d.Code != api.DLabels || !jumps:
			t.Fatalf("%s: %v, want %v", s, diags, c.diags)
		}
	}
	if jumps {
		c.diags = slices.DeleteFunc(c.diags, func(d api.Diag) bool { return d.Code == api.DLabels })
	}
	if least > 0 || len(c.diags) > 0 {
		t.Fatalf("%s: %v, want %v as well, and %d definitions that declare nothing", s, diags, c.diags, least)
	}
}

// TestLibrary: P12.4 to P12.9, functions against the library's check of types.
func TestLibrary(t *testing.T) {
	r := rand.New(rand.NewSource(22))
	codes := map[int]int{}
	for range 3000 {
		w := writer{r, [][]string{{"a", "b"}, {"a", "b", "c", "d", "_"}, {"a", "b", "c", "d", "e", "f", "g"}}[r.Intn(3)]}
		s := w.file()
		c := check(t, s)
		binds, diags := told(t, []api.Source{{Name: "p/a.go", Text: s}})
		c.expectUses(t, s, binds[0])
		for _, d := range c.diags {
			codes[d.Code]++
			if d.Code == api.DUndef && !slices.Contains(begins(diags[0]), d) {
				t.Fatalf("%s: %v, want %v", s, diags[0], d)
			}
		}
		if c.plain {
			codes[0]++
			c.expectDiags(t, s, diags[0])
		}
	}
	for _, code := range []int{0, none, api.DUndef, api.DAgain, api.DUnused, api.DImports, api.DLabel, api.DLabels} {
		if codes[code] < 100 {
			t.Errorf("%d of the code %d were tried", codes[code], code)
		}
	}
}
