package outline_test

import (
	"math/rand"
	"slices"
	"strconv"
	"strings"
	"testing"

	"scholiast/api"
	"scholiast/green"
	"scholiast/outline"
	"scholiast/probe"
	"scholiast/token"
)

// tell writes down all that an outline says.
func tell(o api.Outline) string {
	var b strings.Builder
	ident := func(i api.Ident) { b.WriteString(strconv.Quote(i.Name) + at(i.From, i.To)) }
	ident(o.Package)
	for _, i := range o.Imports {
		b.WriteString("\nimport " + strconv.Quote(i.Name) + strconv.Quote(i.Path) + at(i.From, i.To))
	}
	for _, d := range o.Decls {
		b.WriteString("\n" + strconv.Itoa(d.Kind) + " " + strconv.Quote(d.Recv) + strconv.FormatBool(d.Ptr) + strconv.Itoa(d.Iota) + " ")
		for _, name := range d.Names {
			ident(name)
		}
		b.WriteString(" " + all(d.Node) + " like " + all(d.Like))
	}
	return b.String()
}

func at(from, to int) string { return " " + strconv.Itoa(from) + ".." + strconv.Itoa(to) + " " }

// all writes down a node, with all places.
func all(n api.Node) string {
	s := strconv.Itoa(n.Kind) + at(n.From, n.To) + "("
	for _, kid := range n.Kids {
		s += all(kid)
	}
	return s + ")"
}

// model is P11.2, written down by lists of copies of parts.
type model struct{ s string }

func (m model) bytes(n api.Node) string {
	if 0 <= n.From && n.From <= n.To && n.To <= len(m.s) {
		return m.s[n.From:n.To]
	}
	return ""
}

// nth is a part counted from the front, or, below 0, from the end; NNone, if there is none.
func nth(n api.Node, i int) api.Node {
	l := green.Parts(n)
	if i < 0 {
		i += len(l)
	}
	if i < 0 || i >= len(l) {
		return api.Node{Kind: api.NNone}
	}
	return l[i]
}

func (m model) idents(l ...api.Node) []api.Ident {
	var names []api.Ident
	for _, n := range l {
		names = append(names, api.Ident{Name: m.bytes(n), From: n.From, To: n.To})
	}
	return names
}

func (m model) of(n api.Node) api.Outline {
	var o api.Outline
	clauses := 0
	for _, region := range n.Kids {
		if region.Kind != api.NRegion {
			continue
		}
		what := nth(region, 0)
		switch what.Kind {
		case api.NPackage:
			if clauses++; clauses == 1 {
				o.Package = m.idents(nth(what, 0))[0]
			}
		case api.NImport:
			for _, p := range green.Parts(what) {
				o.Imports = append(o.Imports, m.imported(p))
			}
		case api.NConst, api.NVar, api.NType:
			o.Decls = append(o.Decls, m.group(what)...)
		case api.NFuncD:
			o.Decls = append(o.Decls, m.function(what))
		}
	}
	return o
}

func (m model) imported(p api.Node) api.Import {
	i := api.Import{From: p.From, To: p.To}
	if nth(p, 0).Kind != api.NNone {
		i.Name = m.bytes(nth(p, 0))
	}
	literal := m.bytes(nth(p, 1))
	if literal == "" || literal[0] != '`' {
		i.Path, _, _ = token.Unquote(literal)
		return i
	}
	for at := 1; at < len(literal)-1; at++ {
		if literal[at] != '\r' {
			i.Path += literal[at : at+1]
		}
	}
	return i
}

func (m model) group(what api.Node) []api.Decl {
	var l []api.Decl
	for i, p := range green.Parts(what) {
		d := api.Decl{Node: p}
		switch what.Kind {
		case api.NType:
			d.Kind, d.Names = api.OType, m.idents(nth(p, 0))
		case api.NVar:
			d.Kind, d.Names = api.OVar, m.idents(green.Parts(nth(p, 0))...)
		case api.NConst:
			d.Kind, d.Names, d.Iota = api.OConst, m.idents(green.Parts(nth(p, 0))...), i
			d.Like = p
			if i > 0 && nth(p, 1).Kind == api.NNone && nth(p, 2).Kind == api.NNone {
				d.Like = l[i-1].Like
			}
		}
		l = append(l, d)
	}
	return l
}

func (m model) function(what api.Node) api.Decl {
	d := api.Decl{Kind: api.OFunc, Names: m.idents(nth(what, 1)), Node: what}
	if nth(what, 0).Kind == api.NNone {
		return d
	}
	t := nth(nth(nth(what, 0), 0), -1)
	for t.Kind == api.NParen || t.Kind == api.NStar && !d.Ptr {
		d.Ptr = d.Ptr || t.Kind == api.NStar
		t = nth(t, 0)
	}
	if t.Kind == api.NIndex {
		t = nth(t, 0)
	}
	d.Recv = "?"
	if t.Kind == api.NName {
		d.Recv = m.bytes(t)
	}
	return d
}

// garble is a text of so many bytes, of those that count for literals.
func garble(r *rand.Rand, n int) string {
	b := make([]byte, n)
	for i := range b {
		b[i] = "ab`\"\r\\n_"[r.Intn(8)]
	}
	return string(b)
}

// expectModel holds what is told of a tree against the model.
func expectModel(t *testing.T, s string, n api.Node) {
	t.Helper()
	o, f := outline.Of(s, n)
	if got, want := tell(o), tell(model{s}.of(n)); f != api.OK || got != want {
		t.Fatalf("%q, %s: %d, %s\nwant %s", s, all(n), f, got, want)
	}
}

// TestGrown: P11.2, files of grown regions, as layers 7 and 9 lay them.
func TestGrown(t *testing.T) {
	r := rand.New(rand.NewSource(1))
	methods := 0
	for range 4000 {
		p := &probe.Planter{R: r}
		n := api.Node{Kind: api.NFile}
		for range r.Intn(6) {
			from := p.At
			kids := p.PlantRow(probe.Grower{R: r, Blocks: true}.Region(r.Intn(4)))
			n.Kids = append(n.Kids, api.Node{Kind: api.NRegion, From: from, To: p.At, Kids: kids})
		}
		n.Kids = append(n.Kids, p.Trivia()...)
		n.To = p.At
		s := garble(r, p.At)
		expectModel(t, s, n)
		o, _ := outline.Of(s, n)
		for _, d := range o.Decls {
			if d.Recv != "" && d.Recv != "?" {
				methods++
			}
		}
	}
	if methods < 100 {
		t.Errorf("%d methods were tried", methods)
	}
}

// odd is a tree of few nodes in one another that no layer makes: of kinds that count, and of leaves and other kinds, with pieces in the text or not.
func odd(r *rand.Rand, length, deep int, kinds ...int) api.Node {
	n := api.Node{Kind: kinds[r.Intn(len(kinds))], From: r.Intn(length+2) - 1}
	n.To = n.From + r.Intn(6)
	if deep == 0 {
		return n
	}
	below := []int{api.NNone, api.NName, api.NList, api.NSpec, api.NTSpec, api.NImp, api.NParams, api.NParam, api.NLit, api.TIdent, 199, 277, 0, -1}
	if n.Kind == api.NFile {
		below = []int{api.NRegion, api.NRegion, api.NRegion, api.NRegion, api.NConst, api.TFeed, api.NFile}
	}
	if n.Kind == api.NRegion {
		below = []int{api.NPackage, api.NImport, api.NConst, api.NVar, api.NType, api.NFuncD, api.NFuncD, api.NConst, api.NBad, api.TSpace, api.NNone}
	}
	for range r.Intn(5) {
		n.Kids = append(n.Kids, odd(r, length, deep-1, below...))
	}
	return n
}

// TestOdd: P11.2 and R1, trees that do not fit their text, with parts of any kinds, too many of them, or none.
func TestOdd(t *testing.T) {
	r := rand.New(rand.NewSource(2))
	for range 20000 {
		s := garble(r, r.Intn(30))
		expectModel(t, s, odd(r, len(s), r.Intn(6), api.NFile))
	}
}

// TestOddReceivers: P11.2, receivers of all short rows of nodes in one another.
func TestOddReceivers(t *testing.T) {
	kinds := map[byte]int{'p': api.NParen, 's': api.NStar, 'i': api.NIndex, 'n': api.NName, 'a': api.NParam, 'o': api.NNone}
	probe.Every("psinao", 5, func(row string) {
		var below []api.Node
		for i := len(row) - 1; i >= 0; i-- {
			below = []api.Node{{Kind: api.TMul}, {Kind: kinds[row[i]], From: i, To: i + 2, Kids: below}}
		}
		// Behind an NIndex, where layer 5 has no more than a name, what comes is not asked here.
		if i := strings.IndexByte(row, 'i'); i >= 0 && i+1 < len(row) && row[i+1] != 'n' && row[i+1] != 'o' {
			return
		}
		params := api.Node{Kind: api.NParams, Kids: []api.Node{{Kind: api.NParam, Kids: below}}}
		method := api.Node{Kind: api.NFuncD, Kids: []api.Node{params, {Kind: api.NName, From: 1, To: 2}}}
		expectModel(t, "abcdefg", api.Node{Kind: api.NFile, Kids: []api.Node{{Kind: api.NRegion, Kids: []api.Node{method}}}})
	})
}

// TestMissing: P11.2, parts that are not there count as ones without bytes at 0.
func TestMissing(t *testing.T) {
	region := func(n api.Node) api.Node {
		return api.Node{Kind: api.NFile, Kids: []api.Node{{Kind: api.NRegion, Kids: []api.Node{n}}}}
	}
	for _, c := range []struct {
		n    api.Node
		want api.Outline
	}{
		{api.Node{Kind: api.NPackage}, api.Outline{}},
		{api.Node{Kind: api.NImport, Kids: []api.Node{{Kind: api.NImp, From: 3, To: 4}}}, api.Outline{Imports: []api.Import{{From: 3, To: 4}}}},
		{api.Node{Kind: api.NVar, Kids: []api.Node{{Kind: api.NSpec}}}, api.Outline{Decls: []api.Decl{{Kind: api.OVar, Node: api.Node{Kind: api.NSpec}}}}},
		{api.Node{Kind: api.NType, Kids: []api.Node{{Kind: api.NTSpec}}}, api.Outline{Decls: []api.Decl{{Kind: api.OType, Names: make([]api.Ident, 1), Node: api.Node{Kind: api.NTSpec}}}}},
		{api.Node{Kind: api.NFuncD}, api.Outline{Decls: []api.Decl{{Kind: api.OFunc, Names: make([]api.Ident, 1), Node: api.Node{Kind: api.NFuncD}}}}},
		{api.Node{Kind: api.NFuncD, Kids: []api.Node{{Kind: api.NParams}}},
			api.Outline{Decls: []api.Decl{{Kind: api.OFunc, Names: make([]api.Ident, 1), Recv: "?", Node: api.Node{Kind: api.NFuncD, Kids: []api.Node{{Kind: api.NParams}}}}}}},
	} {
		if o, f := outline.Of("abcdef", region(c.n)); f != api.OK || tell(o) != tell(c.want) {
			t.Errorf("%s: %d, %s, want %s", all(c.n), f, tell(o), tell(c.want))
		}
	}
	// A package clause without a name is the first one all the same; a name that is not there has no bytes, even if it has some.
	s := "abcdef"
	two := region(api.Node{Kind: api.NPackage})
	two.Kids = append(two.Kids, region(api.Node{Kind: api.NPackage, Kids: []api.Node{{Kind: api.NName, From: 1, To: 2}}}).Kids...)
	if o, _ := outline.Of(s, two); o.Package != (api.Ident{}) {
		t.Errorf("%v", o.Package)
	}
	none := api.Node{Kind: api.NImp, Kids: []api.Node{{Kind: api.NNone, From: 1, To: 3}, {Kind: api.NLit, From: 2, To: 3}}}
	if o, _ := outline.Of(s, region(api.Node{Kind: api.NImport, Kids: []api.Node{none}})); len(o.Imports) != 1 || o.Imports[0] != (api.Import{}) {
		t.Errorf("%v", o.Imports)
	}
}

// TestMemory: R3, what is handed in stays as it is, and no two lists that are told share memory with each other or with it.
func TestMemory(t *testing.T) {
	r := rand.New(rand.NewSource(3))
	for range 2000 {
		s := garble(r, 20)
		n := odd(r, len(s), 5, api.NFile)
		n.Kids = slices.Grow(n.Kids, 3)
		spare := n.Kids[len(n.Kids):cap(n.Kids)]
		for i := range spare {
			spare[i] = api.Node{Kind: api.NRegion, Kids: []api.Node{{Kind: api.NFuncD}}}
		}
		told, before := all(n), all(api.Node{Kids: spare})
		o, _ := outline.Of(s, n)
		want := tell(o)
		lists := [][]api.Node{n.Kids[:cap(n.Kids)]}
		for _, d := range o.Decls {
			lists = append(lists, d.Node.Kids, d.Like.Kids)
		}
		if probe.Shares(lists...) {
			t.Fatalf("%q, %s: shared", s, told)
		}
		for i := range o.Decls {
			names := o.Decls[i].Names
			names = names[:cap(names)]
			for j := range names {
				names[j] = api.Ident{Name: "no"}
			}
			probe.Spoil(o.Decls[i].Node.Kids)
			probe.Spoil(o.Decls[i].Like.Kids)
		}
		again, _ := outline.Of(s, n)
		if tell(again) != want || all(n) != told || all(api.Node{Kids: spare}) != before {
			t.Fatalf("%q, %s: changed", s, told)
		}
	}
}

// TestNamesApart: R3, writing over one declaration's names changes no other's, with their spare room.
func TestNamesApart(t *testing.T) {
	o := of(t, "var ( a, b, c int; d, e, f int; g int ); type ( T int; U int ); func f() {}; func g() {}")
	for i := range o.Decls {
		before := tell(api.Outline{Decls: slices.Concat(o.Decls[:i], o.Decls[i+1:])})
		names := o.Decls[i].Names
		for range cap(names) - len(names) {
			names = append(names, api.Ident{Name: "more"})
		}
		for j := range names {
			names[j].Name = "other"
		}
		if tell(api.Outline{Decls: slices.Concat(o.Decls[:i], o.Decls[i+1:])}) != before {
			t.Errorf("%d: shared", i)
		}
	}
}

// TestDeep: R1, trees of 2^16 nodes in one another, and as many parts.
func TestDeep(t *testing.T) {
	const many = 1 << 16
	deep := api.Node{Kind: api.NName, To: 1}
	for i := range many - 10 {
		deep = api.Node{Kind: api.NParen, Kids: []api.Node{{Kind: api.TLparen}, deep}}
		if i == many/2 {
			deep = api.Node{Kind: api.NStar, Kids: []api.Node{deep}}
		}
	}
	params := api.Node{Kind: api.NParams, Kids: []api.Node{{Kind: api.NParam, Kids: []api.Node{deep}}}}
	group := api.Node{Kind: api.NConst, Kids: make([]api.Node, many)}
	for i := range group.Kids {
		group.Kids[i] = api.Node{Kind: api.NSpec, From: i}
	}
	n := api.Node{Kind: api.NFile, Kids: []api.Node{
		{Kind: api.NRegion, Kids: []api.Node{{Kind: api.NFuncD, Kids: []api.Node{params}}}},
		{Kind: api.NRegion, Kids: []api.Node{group}},
	}}
	o, f := outline.Of("T", n)
	if f != api.OK || len(o.Decls) != many+1 || o.Decls[0].Recv != "T" || !o.Decls[0].Ptr || o.Decls[many].Iota != many-1 || o.Decls[many].Like.From != 0 {
		t.Errorf("%d, %d declarations", f, len(o.Decls))
	}
	if got := outline.Print(o); strings.Count(got, "\n") != many+2 {
		t.Errorf("%d lines", strings.Count(got, "\n"))
	}
}
