package decl_test

import (
	"slices"
	"strings"
	"testing"

	"scholiast/api"
	"scholiast/decl"
	"scholiast/probe"
)

// TestLiterals: P7.1, the bodies of function literals are read, wherever they stand.
func TestLiterals(t *testing.T) {
	const sig = "NSig<NParams<( )> _>"
	const literal = "NFn<func " + sig + " NBlock<{ NExpr<a> }>>"
	expectReads(t, []reads{
		{"var b = func() { a }", "NVar<var NSpec<NList<b> _ = NList<" + literal + ">>>"},
		{"// b\nvar c = func() { a };", "NVar<var NSpec<NList<c> _ = NList<" + literal + ">>> ;"},
		{"var (b = func() { a }; c = d(func() { a }))", "NVar<var ( NSpec<NList<b> _ = NList<" + literal + ">> ; NSpec<NList<c> _ = NList<NCall<d ( " + literal + " )>>> )>"},
		{"const b = func() { a }", "NConst<const NSpec<NList<b> _ = NList<" + literal + ">>>"},
		{"type b [func() { a }]c", "NType<type NTSpec<b _ NArray<[ " + literal + " ] c>>>"},
		{"func f() { b(func() { a }) }", "NFuncD<func _ f _ " + sig + " NBlock<{ NExpr<NCall<b ( " + literal + " )>> }>>"},
		{"func f() { func() { func() { a } } }", "NFuncD<func _ f _ " + sig + " NBlock<{ NExpr<NFn<func " + sig + " NBlock<{ NExpr<" + literal + "> }>>> }>>"},
		{"func (b [func() { a }]c) f(d [func() { a }]e) [func() { a }]g", "NFuncD<func NParams<( NParam<b NArray<[ " + literal + " ] c>> )> f _ NSig<NParams<( NParam<d NArray<[ " + literal + " ] e>> )> NArray<[ " + literal + " ] g>> _>"},
		{"func f[b [func() { a }]c]()", "NFuncD<func _ f NTParams<[ NParam<b NArray<[ " + literal + " ] c>> ]> " + sig + " _>"},
		{"func f() { switch a := b.(type) {} }", "NFuncD<func _ f _ " + sig + " NBlock<{ NTSwitch<switch _ a := NGuard<b . ( type )> { }> }>>"},
		{"var b = func() { switch a.(type) {} }", "NVar<var NSpec<NList<b> _ = NList<NFn<func " + sig + " NBlock<{ NTSwitch<switch _ _ NGuard<a . ( type )> { }> }>>>>>"},
	})
	expectFails(t, api.DSyntax,
		"var b = func() { a @b }", "const b = func() { a, b @}", "type b [func() { a @b }]c", "func f() { a(func() { @) }) }", "func f(a [func() { @) }]b) {}", "func (a [func() { @) }]b) f() {}", "func f[a [func() { @) }]b]() {}", "func f() { func() { func() { a @b } } }", "// b\nvar c = func() { a @b };", "var b = func() { @case }", "var b = func() { if a @}")
}

// TestFirst: P7.1, of several that are amiss the first one is told: what the region's reader fails at, then the literals' bodies from left to right, then guards.
func TestFirst(t *testing.T) {
	expectFails(t, api.DSyntax,
		"var a = func() { ) } @b", "var a = b.(type) @c", "func f() { func() { ) }; a @b }", "func f() { func() { ) } } @{}", "var a = func() { ) }; @b", "func f() { a.(type) }@)",
		"var a, b = func() { @) }, func() { ] }", "var a, b = func() {}, func() { @] }", "var a, b = c.(type), func() { @] }", "func f(a [func() { @) }]b) { func() { ] } }", "func f() { func() { func() { ] }; a @b } }")
	for _, c := range []struct{ text, guard string }{
		{"var a = b.(type)", "b.(type)"}, {"const a = b.(type)", "b.(type)"}, {"type a [b.(type)]c", "b.(type)"}, {"var a [b.(type)]c", "b.(type)"}, {"var a, b = c.(type), d.(type)", "c.(type)"}, {"var a, b = func() { c.(type) }, d.(type)", "c.(type)"}, {" // x\nvar a = b.(type); ", "b.(type)"},
		{"func f() { a.(type) }", "a.(type)"}, {"func f(a [b.(type)]c) {}", "b.(type)"}, {"func (a [b.(type)]c) f()", "b.(type)"}, {"func f[a [b.(type)]c]()", "b.(type)"}, {"func f() [b.(type)]c", "b.(type)"}, {"func f() { switch a.(type) { case b.(type): } }", "b.(type)"}, {"func f() { func() { return a.(type) } }", "a.(type)"}, {"func f() { switch a.(type).(type) {} }", "a.(type)"},
	} {
		l := probe.Tokens(c.text)
		n, d, ok := decl.Region(l)
		if d.Code != api.DSyntax || c.text[d.From:d.To] != c.guard || ok {
			t.Errorf("%q: %v, %v, want %s", c.text, d, ok, c.guard)
		}
		expectBad(t, l, n)
	}
}

// TestDepth: P7.1, what a region is may be so high as any node; a literal's body, with the nodes in which it stands there. The region itself is not counted.
func TestDepth(t *testing.T) {
	blocks := func(n int) string { return probe.Around(n, "{", "", "}") }
	stars := func(n int) string { return probe.Around(n, "*", "a", "") }
	for _, c := range []struct{ deep, wrong string }{
		{"func f() " + blocks(99), "func f() " + blocks(100) + "@"},
		{"func f() " + blocks(99) + ";", "func f() " + blocks(100) + "@;"},
		{"func f() " + blocks(99), "func f() " + blocks(100) + "@)"},
		{"func f() " + blocks(99), "func f() " + probe.Around(101, "{", "@{}", "}")},
		{"func (a " + stars(96) + ") f()", "func (a " + stars(97) + ") f()@"},
		{"func (a " + stars(96) + ") f()", "func (a " + stars(98) + ") @f()"},
		{"func (a " + stars(96) + ") f()", "func (a " + stars(99) + "@) f()"},
		{"func f(" + stars(95) + ") {}", "func f(" + stars(96) + ") {}@"},
		{"func f() " + stars(97), "func f() " + stars(98) + "@"},
		{"func f[a " + stars(96) + "]()", "func f[a " + stars(97) + "]()@"},
		{"var b " + stars(97), "var b " + stars(98) + "@"},
		{"const b = " + probe.Around(96, "", "a", "()"), "const b = " + probe.Around(97, "", "a", "()") + "@"},
		{"type b " + stars(97), "type b " + stars(98) + "@;"},
		{"var a = func() " + blocks(96), "var a = func() @" + blocks(97)},
		{"var a = func() " + blocks(96), "var a, b = func() @" + blocks(97) + ", func() { ) }"},
		{"var a = b(func() " + blocks(95) + ")", "// c\nvar a = b(func() @" + blocks(96) + ");"},
		{"func f() { func() " + blocks(96) + " }", "func f() { func() @" + blocks(97) + " }"},
		{"type a [func() " + blocks(96) + "]b", "type a [func() @" + blocks(97) + "]b"},
	} {
		l := probe.Tokens(c.deep)
		n, d, ok := decl.Region(l)
		if !ok || d != (api.Diag{}) || probe.Height(n) != api.MaxDepth+1 {
			t.Errorf("%q: %v, %v, %d", c.deep, d, ok, probe.Height(n))
			continue
		}
		expectWhole(t, l, n)
		expectFails(t, api.DDepth, c.wrong)
	}
	// What stands side by side, however often, is not deep.
	for _, wide := range []string{"import (" + strings.Repeat("a `b`;", 300) + ")", "func f() {" + strings.Repeat("func() { a };", 300) + "}", "var (" + strings.Repeat("a = func() { b }\n", 300) + ")"} {
		if _, d, ok := decl.Region(probe.Tokens(wide)); d != (api.Diag{}) || !ok {
			t.Errorf("%.20q: %v, %v", wide, d, ok)
		}
	}
}

// TestMemory: R3, what is handed in is neither changed nor kept, nor what lies behind it; no two lists of an answer share memory.
func TestMemory(t *testing.T) {
	for _, s := range []string{
		"// a\nfunc (b c) f(d, e g) { h(func() { i }, func() {}) } ; // j\n", " import (\n\"a\"; b `c` ) ", "package p", "var a = func() { b }",
		" x = 1 // a\n", " func f( { ", " var a = func() { b c } ", " // a\n", "x",
	} {
		l := append(probe.Tokens(s), api.Tok{Kind: api.TIdent, From: 900, To: 901}, api.Tok{Kind: api.TRbrace, From: 901, To: 902})
		short := len(l) - 2
		given := slices.Clone(l)
		want, e, held := decl.Region(slices.Clone(l[:short]))
		n, d, ok := decl.Region(l[:short])
		if !probe.Same(n, want) || d != e || ok != held || probe.Shares([]api.Node{n}) {
			t.Fatalf("%q: %v, %v, %v", s, n, d, ok)
		}
		again, _, _ := decl.Region(l[:short])
		if probe.Shares([]api.Node{n}, []api.Node{again}) {
			t.Errorf("%q: two answers share memory", s)
		}
		for i := range l {
			l[i] = api.Tok{Kind: -1, From: -1, To: -1}
		}
		if !probe.Same(n, want) {
			t.Errorf("%q: the region has become %v", s, n)
		}
		copy(l, given)
		probe.Spoil([]api.Node{n})
		if !slices.Equal(l, given) || !probe.Same(again, want) {
			t.Errorf("%q: the tokens have become %v, and another answer %v", s, l, again)
		}
	}
}
