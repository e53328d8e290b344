package stmt_test

import (
	"math/rand"
	"slices"
	"testing"

	"scholiast/api"
	"scholiast/expr"
	"scholiast/probe"
	"scholiast/stmt"
)

// expectParses holds what Parse tells of texts.
func expectParses(t *testing.T, l []reads) {
	t.Helper()
	for _, c := range l {
		n, d, ok := stmt.Parse(probe.Tokens(c[0]))
		if got := probe.Show(c[0], n); got != c[1] || d != (api.Diag{}) || !ok {
			t.Errorf("Parse(%q):\n got %s, %v, %v\nwant %s", c[0], got, d, ok, c[1])
		}
	}
}

// TestParse: P6.10, a block that is all of a list, with trivia on both sides, which are not in it.
func TestParse(t *testing.T) {
	const sig = "NFn<func NSig<NParams<( )> _> "
	expectParses(t, []reads{
		{"{}", "NBlock<{ }>"}, {" /**/ { a } // b", "NBlock<{ NExpr<a> }>"}, {"\n{\n\ta\n}\n", "NBlock<{ NExpr<a> · }>"},
		{"{ func() {} }", "NBlock<{ NExpr<" + sig + "NBlock<{ }>>> }>"}, {"{ func() { a; b }() }", "NBlock<{ NExpr<NCall<" + sig + "NBlock<{ NExpr<a> ; NExpr<b> }>> ( )>> }>"}, {"{ a := func() {\n\treturn b\n} }", "NBlock<{ NDefine<NList<a> := NList<" + sig + "NBlock<{ NReturn<return NList<b>> · }>>>> }>"},
		{"{ func() { func() { a } } }", "NBlock<{ NExpr<" + sig + "NBlock<{ NExpr<" + sig + "NBlock<{ NExpr<a> }>>> }>>> }>"}, {"{ f(func() { a }, func() { b }) }", "NBlock<{ NExpr<NCall<f ( " + sig + "NBlock<{ NExpr<a> }>> , " + sig + "NBlock<{ NExpr<b> }>> )>> }>"},
		{"{ if func() { a }() {} }", "NBlock<{ NIf<if _ NCall<" + sig + "NBlock<{ NExpr<a> }>> ( )> NBlock<{ }> _> }>"}, {"{ var a [func() { b }]c }", "NBlock<{ NVar<var NSpec<NList<a> NArray<[ " + sig + "NBlock<{ NExpr<b> }>> ] c> _>> }>"}, {"{ func() { T{} }() }", "NBlock<{ NExpr<NCall<" + sig + "NBlock<{ NExpr<NComp<T { }>> }>> ( )>> }>"}, {"{ switch a.(type) { case func() { b }: } }", "NBlock<{ NTSwitch<switch _ _ NGuard<a . ( type )> { NCase<case NList<" + sig + "NBlock<{ NExpr<b> }>>> :> }> }>"},
		{"{ func() { switch a := b.(type) {} } }", "NBlock<{ NExpr<" + sig + "NBlock<{ NTSwitch<switch _ a := NGuard<b . ( type )> { }> }>>> }>"},
	})
	expectParseFails(t, api.DSyntax, "@", "@ ", "@a", "{@", "{} @a", "{}@;", "{} @{}", "@}", "{ a @b }", "{ func() { a @b } }", "{ func() { @) } }", "{ func() { @case } }", "{ func() { a, b @} }", "{ func() { if a @} }", "{ func() { func() { @] } } }", "{ func() { { a @b } } }")
}

// TestFirst: P6.9, of several that are amiss the first one is told: from left to right, a literal's body ahead of the literals in it, guards behind all of them.
func TestFirst(t *testing.T) {
	expectParseFails(t, api.DSyntax,
		"{ f(func() { @) }, func() { ] }) }", "{ f(func() { a }, func() { @] }) }", "{ func() { func() { ) }; a @b } }", "{ func() { func() { a; func() { ) }; b @c }; func() { ] } } }", "{ func() { f(func() { @) }, func() { a b }) }; func() { a b } }", "{ func() { a @b }; func() { ) } }", "{ func() { ) }; a @b }",
		"{ func(a [func() { b @c }]d) { ) } }", "{ func(a [func() { b }]d) { @) } }",
		"{ f(a.(type)); func() { @) } }", "{ func() { f(a.(type)) }; func() { @) } }", "{ func() { f(a.(type)); func() { @) } } }",
	)
	for _, c := range []struct{ text, guard string }{
		{"{ a.(type) }", "a.(type)"}, {"{ f(a.(type), b.(type)) }", "a.(type)"}, {"{ f(a.(type).(type)) }", "a.(type).(type)"}, {"{ f(a[b.(type)].(type)) }", "a[b.(type)].(type)"}, {"{ f(a.(type)[b.(type)]) }", "a.(type)"},
		{"{ switch a.(type).(type) {} }", "a.(type)"}, {"{ switch a := b.(type).(type) {} }", "b.(type)"}, {"{ switch f(a.(type)).(type) {} }", "a.(type)"}, {"{ switch (a.(type)) {} }", "a.(type)"}, {"{ switch a.(type); {} }", "a.(type)"}, {"{ switch a.(type); b.(type) {} }", "a.(type)"}, {"{ switch a := b.(type); c {} }", "b.(type)"}, {"{ switch a.(type) { case b.(type): } }", "b.(type)"}, {"{ switch a.(type) { case b: c.(type) } }", "c.(type)"}, {"{ switch a { case b.(type): } }", "b.(type)"},
		{"{ if a.(type) {} }", "a.(type)"}, {"{ for a.(type) {} }", "a.(type)"}, {"{ for range a.(type) {} }", "a.(type)"}, {"{ return a.(type) }", "a.(type)"}, {"{ defer a.(type) }", "a.(type)"}, {"{ var a = b.(type) }", "b.(type)"}, {"{ var a [b.(type)]c }", "b.(type)"}, {"{ a.(type)++ }", "a.(type)"}, {"{ a = b.(type) }", "b.(type)"},
		{"{ func() { a.(type) } }", "a.(type)"}, {"{ f(func() { a.(type) }, b.(type)) }", "a.(type)"}, {"{ f(a.(type), func() { b.(type) }) }", "a.(type)"}, {"{ f(func() { switch a.(type) {} }, b.(type)) }", "b.(type)"}, {"{ func() { func() { a.(type) } } }", "a.(type)"},
	} {
		l := probe.Tokens(c.text)
		n, d, ok := stmt.Parse(l)
		if d.Code != api.DSyntax || c.text[d.From:d.To] != c.guard || ok || !probe.Same(n, api.Node{}) {
			t.Errorf("Parse(%q): %v, %v, %v, want %s", c.text, n, d, ok, c.guard)
		}
	}
}

// TestSecondGuard: P6.9, of guards with the same bytes the one that is amiss is told by its place.
func TestSecondGuard(t *testing.T) {
	const s = "{ switch a.(type) { case b: switch a.(type) { case c: f(a.(type)) } } }"
	_, d, ok := stmt.Parse(probe.Tokens(s))
	if want := (api.Diag{Code: api.DSyntax, From: 56, To: 64}); d != want || ok {
		t.Errorf("%v, want %v", d, want)
	}
}

// literals are so many function literals in one another, with a text in the innermost one's body: this body stands in 3 nodes more for each.
func literals(n int, body string) string {
	return probe.Around(n, "{ func() ", body, " }")
}

// TestFillDepth: P6.9, a body that is not too high alone, but with the nodes in which it stands; its height is that with flat bodies in it.
func TestFillDepth(t *testing.T) {
	for _, c := range []struct{ deep, wrong string }{
		{literals(32, "{ -a }"), literals(32, "@{ - -a }")},
		{literals(32, "{ {{{}}} }"), literals(32, "@{ {{{{}}}} }")},
		{literals(32, "{ {{;}} }"), literals(32, "@{ {{{;}}} }")},
		{literals(32, "{ a.b }"), literals(32, "@{ a.b.c }")},
		{literals(31, "{ - -func() {} }"), literals(31, "@{ - - -func() {} }")},
		{literals(32, "{}"), literals(32, "@{ func() {} }")},
		{literals(32, "{}"), literals(32, "@{ func() { ) } }")},
		{literals(31, "{ func(a b) {} }"), literals(31, "@{ func(a []b) (c, d []e) {} }")},
		{literals(31, "{ f(func() {}) }"), literals(31, "{ f(-func() @{ a.b }) }")},
		{literals(31, "{ f(func() {}, g) }"), literals(31, "{ f(func() @{ {{{}}} }, -g) }")},
		{literals(25, probe.Around(22, "{", "", "}")), literals(25, "@"+probe.Around(26, "{", "", "}"))},
		{literals(1, probe.Around(97, "{", "", "}")), literals(1, "@"+probe.Around(98, "{", "", "}"))},
	} {
		n, d, ok := stmt.Parse(probe.Tokens(c.deep))
		if !ok || d != (api.Diag{}) || probe.Height(n) > api.MaxDepth {
			t.Errorf("%q: %v, %v, %d", c.deep, d, ok, probe.Height(n))
		}
		expectParseFails(t, api.DDepth, c.wrong)
	}
	expectParseFails(t, api.DSyntax, literals(32, "{ func() {} @) }"), literals(31, "{ f(func() { @) }, func() {{{{{}}}}}) }"))
	expectParseFails(t, api.DDepth, literals(31, "{ f(func() @{{{{{}}}}}, func() { ) }) }"), literals(32, "@{{{{{}}}}}; a.(type)"))
}

// TestFillWithin: P6.9, the nodes in which the tree that is handed in stands are not counted, that tree itself is.
func TestFillWithin(t *testing.T) {
	read := func(s string) api.Node {
		r := expr.NewReader(probe.Tokens(s))
		r.X(false)
		row, d, _ := r.Done()
		if d != (api.Diag{}) {
			t.Fatalf("%q: %v", s, d)
		}
		return row[0]
	}
	for _, c := range []struct {
		text string
		ok   bool
	}{{"func() " + probe.Around(99, "{", "", "}"), true}, {"func() " + probe.Around(100, "{", "", "}"), false}, {"-func() " + probe.Around(98, "{", "", "}"), true}, {"-func() " + probe.Around(99, "{", "", "}"), false}} {
		n, d, ok := stmt.Fill(read(c.text))
		if ok != c.ok || !ok && d.Code != api.DDepth || ok && probe.Height(n) != api.MaxDepth {
			t.Errorf("%.20q: %v, %v, %d", c.text, d, ok, probe.Height(n))
		}
	}
}

func leaf(kind, from, to int) api.Node { return api.Node{Kind: kind, From: from, To: to} }

func node(kind, from, to int, kids ...api.Node) api.Node {
	return api.Node{Kind: kind, From: from, To: to, Kids: kids}
}

// TestFillOdd: P6.9 and R1, trees that no layer makes.
func TestFillOdd(t *testing.T) {
	open, closing, name := leaf(api.TLbrace, 3, 4), leaf(api.TRbrace, 8, 9), leaf(api.TIdent, 5, 6)
	flat := node(api.NFlat, 1, 9, leaf(api.TSpace, 1, 3), open, name, closing, leaf(api.TFeed, 9, 11))
	block := node(api.NBlock, 3, 9, open, node(api.NExpr, 5, 6, node(api.NName, 5, 6, name)), closing)
	guard := node(api.NGuard, 20, 30, node(api.NName, 20, 21))
	for _, c := range []struct {
		n, want api.Node
		d       api.Diag
	}{
		{n: api.Node{}},
		{n: leaf(api.TIdent, 4, 2), want: leaf(api.TIdent, 4, 2)},
		{n: leaf(-7, 1, 2), want: leaf(-7, 1, 2)},
		{n: leaf(api.NFn, 1, 2), want: leaf(api.NFn, 1, 2)},
		{n: flat, want: flat},
		{n: node(api.NFunc, 0, 9, flat), want: node(api.NFunc, 0, 9, flat)},
		{n: node(api.NFn, 0, 9, flat), want: node(api.NFn, 0, 9, block)},
		{n: node(api.NFn, 0, 9, name, flat, flat, name), want: node(api.NFn, 0, 9, name, block, flat, name)},
		{n: node(api.TIdent, 0, 9, node(api.NFn, 0, 9, flat)), want: node(api.TIdent, 0, 9, node(api.NFn, 0, 9, block))},
		{n: node(api.NFn, 0, 9, node(api.NSig, 0, 1, flat), block), want: node(api.NFn, 0, 9, node(api.NSig, 0, 1, flat), block)},
		{n: node(api.NFn, 0, 9, node(api.NFlat, 1, 9, open, node(api.TIdent, 5, 6, name), closing)), want: node(api.NFn, 0, 9, block)},
		{n: node(api.NFn, 0, 9, leaf(api.NFlat, 2, 4)), d: api.Diag{Code: api.DSyntax}},
		{n: node(api.NFn, 0, 9, node(api.NFlat, 2, 4, name)), d: api.Diag{Code: api.DSyntax, From: 5, To: 6}},
		{n: node(api.NFn, 0, 9, node(api.NFlat, 2, 4, open, closing, name)), d: api.Diag{Code: api.DSyntax, From: 5, To: 6}},
		{n: node(api.NFn, 0, 9, node(api.NFlat, 2, 4, leaf(api.TSpace, 1, 3))), d: api.Diag{Code: api.DSyntax, From: 1, To: 1}},
		{n: node(api.NFn, 0, 9, node(api.NFlat, 2, 4, open, block, closing)), d: api.Diag{Code: api.DSyntax, From: 3, To: 9}},
		{n: guard, d: api.Diag{Code: api.DSyntax, From: 20, To: 30}},
		{n: node(api.NTSwitch, 0, 40, guard), d: api.Diag{Code: api.DSyntax, From: 20, To: 30}},
		{n: node(api.NTSwitch, 0, 40, flat, flat, guard), want: node(api.NTSwitch, 0, 40, flat, flat, guard)},
		{n: node(api.NTSwitch, 0, 40, open, flat, name, flat, guard, name), want: node(api.NTSwitch, 0, 40, open, flat, name, flat, guard, name)},
		{n: node(api.NTSwitch, 0, 40, name, name, guard), d: api.Diag{Code: api.DSyntax, From: 20, To: 30}},
		{n: node(api.NTSwitch, 0, 40, flat, flat, flat, guard), d: api.Diag{Code: api.DSyntax, From: 20, To: 30}},
		{n: node(api.NSwitch, 0, 40, flat, flat, guard), d: api.Diag{Code: api.DSyntax, From: 20, To: 30}},
		{n: node(api.NTSwitch, 0, 40, flat, flat, node(api.NParen, 0, 3, guard)), d: api.Diag{Code: api.DSyntax, From: 20, To: 30}},
		{n: node(api.NTSwitch, 0, 40, flat, flat, node(api.NGuard, 0, 40, guard)), d: api.Diag{Code: api.DSyntax, From: 20, To: 30}},
	} {
		n, d, ok := stmt.Fill(c.n)
		if !probe.Same(n, c.want) || d != c.d || ok != (c.d.Code == 0) {
			t.Errorf("Fill(%v):\n got %v, %v, %v\nwant %v, %v", c.n, n, d, ok, c.want, c.d)
		}
	}
}

// TestFillDeep: R1, a tree of as many nodes in one another as the document's bound allows.
func TestFillDeep(t *testing.T) {
	n := leaf(api.TIdent, 0, 1)
	for range 1 << 16 {
		n = node(api.NFn, 0, 1, n)
	}
	got, d, ok := stmt.Fill(n)
	if !ok || d != (api.Diag{}) || probe.Height(got) != 1<<16 {
		t.Errorf("%v, %v", d, ok)
	}
	deep := node(api.NFn, 0, 2, node(api.NFlat, 0, 2, leaf(api.TLbrace, 0, 1), leaf(api.TRbrace, 1, 2)))
	for range 98 {
		deep = node(api.NParen, 0, 2, deep)
	}
	if _, d, ok := stmt.Fill(deep); !ok {
		t.Errorf("a block of the height 1 in 99 nodes: %v", d)
	}
	if _, d, ok := stmt.Fill(node(api.NParen, 0, 2, deep)); ok || d != (api.Diag{Code: api.DDepth, From: 0, To: 1}) {
		t.Errorf("a block of the height 1 in 100 nodes: %v, %v", d, ok)
	}
}

// TestMemory: R3, what is handed in is neither changed nor kept, nor what lies behind it; no two lists of an answer share memory, nor an answer and a tree that is handed in.
func TestMemory(t *testing.T) {
	l := probe.Tokens("{ f(a, func(b, c d) { func() { e } }, func() {}); switch g.(type) { case h: } } a b")
	short := len(l) - 4
	given := slices.Clone(l)
	want, _, _ := stmt.Parse(slices.Clone(l[:short]))
	n, d, ok := stmt.Parse(l[:short])
	if !ok || !probe.Same(n, want) || probe.Shares([]api.Node{n}) {
		t.Fatalf("%v, %v, %v", n, d, ok)
	}
	probe.Spoil([]api.Node{n})
	if !slices.Equal(l, given) {
		t.Errorf("the tokens have become %v", l)
	}
	r := expr.NewReader(l[:short])
	stmt.Block(r)
	for i := range l {
		l[i] = api.Tok{Kind: api.TRparen, From: -1, To: -1}
	}
	row, _, _ := r.Done()
	flat := probe.Flat(row[0])
	got, d, ok := stmt.Fill(row[0])
	if !ok || !probe.Same(got, want) || probe.Shares([]api.Node{got}, row) {
		t.Errorf("%v, %v, %v", got, d, ok)
	}
	probe.Spoil([]api.Node{got})
	if !probe.Same(row[0], flat) {
		t.Errorf("the tree has become %v", row[0])
	}
}

// TestFilled: P6.9 to P6.11, trees of all kinds of nodes with literals in them: Fill of what a reader reads is the tree, or tells the first guard that is amiss; or it fails where a loop is taken for one that goes through something.
func TestFilled(t *testing.T) {
	r := rand.New(rand.NewSource(9))
	met := map[int]int{}
	astray, wrong := 0, 0
	for range 20000 {
		n := probe.Grower{R: r, Blocks: true, Guarded: r.Intn(3) == 0, Bare: r.Intn(2) == 0}.Block(1 + r.Intn(4))
		row, l := planted(r, n)
		want := row[slices.IndexFunc(row, func(n api.Node) bool { return n.Kind == api.NBlock })]
		got, d, ok := stmt.Parse(l)
		if d.Code == api.DDepth {
			continue
		}
		flat := probe.Flat(want)
		if _, is := misled(flat); !is {
			filled, same, fits := stmt.Fill(flat)
			if !probe.Same(filled, got) || same != d || fits != ok {
				t.Fatalf("%v: Fill says %v, %v, %v, and Parse %v, %v, %v", l, filled, same, fits, got, d, ok)
			}
		}
		fault, amiss := firstStray(want)
		if amiss {
			astray++
		}
		if tok, is := firstMisled(want); is {
			wrong++
			fault, amiss = leaf(tok.Kind, tok.From, tok.To), true
		}
		if amiss {
			want = api.Node{}
		}
		if ok == amiss || !probe.Same(got, want) || amiss && d != (api.Diag{Code: api.DSyntax, From: fault.From, To: fault.To}) || !amiss && d != (api.Diag{}) {
			t.Fatalf("%v: %v, %v, want %v, %v", l, got, d, want, fault)
		}
		if !amiss {
			probe.Count(n, met)
		}
	}
	expectMet(t, met)
	if met[api.NFn] < 1000 || astray < 1000 || wrong < 50 {
		t.Errorf("%d literals, %d guards that are amiss and %d loops that are taken for others were tried", met[api.NFn], astray, wrong)
	}
}

// firstStray is the first guard in a tree that is no third part of an NTSwitch.
func firstStray(n api.Node) (api.Node, bool) {
	var all []api.Node
	var walk func(n api.Node, asked bool)
	walk = func(n api.Node, asked bool) {
		if n.Kind == api.NGuard && !asked {
			all = append(all, n)
		}
		parts := slices.DeleteFunc(slices.Clone(n.Kids), func(n api.Node) bool { return n.Kind < api.NNone })
		for i, part := range parts {
			walk(part, n.Kind == api.NTSwitch && i == 2)
		}
	}
	walk(n, false)
	if len(all) == 0 {
		return api.Node{}, false
	}
	return all[0], true
}

// TestSpoiled: P6.11 and R1, lists of tokens that are nearly blocks: what Parse answers is lossless, and no deeper than it may be, or the diagnostic is of a token or a guard; and it hangs on the tokens' kinds alone.
func TestSpoiled(t *testing.T) {
	r := rand.New(rand.NewSource(10))
	held, failed := 0, 0
	for range 40000 {
		p := &probe.Planter{R: r}
		p.Plant(probe.Grower{R: r, Blocks: true, Guarded: r.Intn(5) == 0, Bare: true}.Block(r.Intn(4)))
		moved := probe.Spoilt(r, p.L)
		l := probe.Apart(moved)
		n, d, ok := stmt.Parse(l)
		if ok {
			held++
			expectBlock(t, l, n)
		} else {
			failed++
			if !probe.Same(n, api.Node{}) {
				t.Fatalf("%v: %v beside %v", l, n, d)
			}
			if d.Code != api.DSyntax || !probe.IsGuard(l, d) {
				probe.ExpectPlace(t, l, d)
			}
		}
		// The tokens' kinds alone count.
		if m, e, _ := stmt.Parse(moved); probe.Shape(m) != probe.Shape(n) || e.Code != d.Code {
			t.Fatalf("%v: %v, %v; moved %v, %v", l, n, d, m, e)
		}
	}
	if held < 1000 || failed < 1000 {
		t.Errorf("%d held, %d failed", held, failed)
	}
}

// expectBlock holds Parse's answer of l against P6.11.
func expectBlock(t *testing.T, l []api.Tok, n api.Node) {
	t.Helper()
	first := slices.IndexFunc(l, func(t api.Tok) bool { return !probe.IsTrivia(t.Kind) })
	row := []api.Node{}
	for _, tok := range l[:first] {
		row = append(row, leaf(tok.Kind, tok.From, tok.To))
	}
	row = append(row, n)
	for _, tok := range l[first+len(probe.Leaves([]api.Node{n})):] {
		if !probe.IsTrivia(tok.Kind) {
			t.Fatalf("%v: %v stands behind the block", l, tok)
		}
		row = append(row, leaf(tok.Kind, tok.From, tok.To))
	}
	probe.ExpectLaws(t, l, row)
}
