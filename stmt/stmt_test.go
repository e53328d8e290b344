package stmt_test

import (
	"testing"

	"scholiast/api"
	"scholiast/expr"
	"scholiast/probe"
	"scholiast/stmt"
)

// procedure is what reads a part.
type procedure = func(r *expr.Reader)

// reads is a text, and the node that it is.
type reads = probe.Reads

// TestExamples: P6.10 and the chapter's examples.
func TestExamples(t *testing.T) {
	for _, c := range []reads{
		{"{ x, y = 1, 2; f() }", "NBlock<NAssign<NList<x y> NList<1 2>> NExpr<NCall<f>>>"},
		{"{ if x := f(); x { } else if y { } }", "NBlock<NIf<NDefine<NList<x> NList<NCall<f>>> x NBlock<> NIf<_ y NBlock<> _>>>"},
		{"{\nfor { }\nfor a { }\nfor ; ; { }\nfor i := range x { }\n}", "NBlock<NFor<_ _ _ NBlock<>> NFor<_ a _ NBlock<>> NFor<_ _ _ NBlock<>> NRange<NList<i> x NBlock<>>>"},
		{"{ switch x := v.(type) { case int: f(); default: } }", "NBlock<NTSwitch<_ x NGuard<v> NCase<NList<int> NExpr<NCall<f>>> NCase<_>>>"},
		{"{ L: for a { break L } }", "NBlock<NLabel<L NFor<_ a _ NBlock<NBreak<L>>>>>"},
		{"{ f = func() { return 1 } }", "NBlock<NAssign<NList<f> NList<NFn<NSig<NParams<> _> NBlock<NReturn<NList<1>>>>>>>"},
	} {
		n, d, ok := stmt.Parse(probe.Tokens(c[0]))
		if got := probe.Parts(c[0], n); got != c[1] || d != (api.Diag{}) || !ok {
			t.Errorf("Parse(%q):\n got %s, %v, %v\nwant %s", c[0], got, d, ok, c[1])
		}
	}
	expectParseFails(t, api.DSyntax, "{ var x@; }", "{ x, y @}", "{ x, y @+= 1, 2 }", "{ L: @x }")
	n, d, ok := stmt.Parse(probe.Tokens("{ f(v.(type)) }"))
	if d != (api.Diag{Code: api.DSyntax, From: 4, To: 12}) || ok || !probe.Same(n, api.Node{}) {
		t.Errorf("a guard in a call: %v, %v, %v", n, d, ok)
	}
}

// expectParseFails holds what Parse tells of texts that fail with a code at the token behind an @, or at the end.
func expectParseFails(t *testing.T, code int, l ...string) {
	t.Helper()
	for _, marked := range l {
		s, want := probe.Marked(t, marked, code)
		if n, d, ok := stmt.Parse(probe.Tokens(s)); d != want || ok || !probe.Same(n, api.Node{}) {
			t.Errorf("Parse(%q): %s, %v, %v, want %v", s, probe.Parts(s, n), d, ok, want)
		}
	}
}

// TestNames: P6.1, where the chapter has names: in specs and ahead of the signs that declare.
func TestNames(t *testing.T) {
	probe.ExpectReads(t, stmt.Const, []reads{
		{"const a", "NConst<const NSpec<NList<a> _ _>>"}, {"const a, _, b", "NConst<const NSpec<NList<a , _ , b> _ _>>"}, {"const a,\n\tb", "NConst<const NSpec<NList<a , b> _ _>>"},
	})
	probe.ExpectFails(t, stmt.Const, api.DSyntax, "const@", "const @1", "const a,@", "const a, @;", "const a, @, b", "const @, a", "const a, @1", "const a, @func", "const (a, @)")
}

// TestDefine: P6.2, names and the sign that declares them.
func TestDefine(t *testing.T) {
	probe.ExpectReads(t, stmt.Statement, []reads{
		{"a := 1", "NDefine<NList<a> := NList<1>>"}, {"a, b := c, d", "NDefine<NList<a , b> := NList<c , d>>"}, {"_, a, b := f()", "NDefine<NList<_ , a , b> := NList<NCall<f ( )>>>"}, {"a := b, c", "NDefine<NList<a> := NList<b , c>>"}, {"a := T{}", "NDefine<NList<a> := NList<NComp<T { }>>>"}, {"a := func() { b := c }", "NDefine<NList<a> := NList<NFn<func NSig<NParams<( )> _> NFlat<{ b := c }>>>>"}, {"a,\nb :=\nc", "NDefine<NList<a , b> := NList<c>>"},
	})
	probe.ExpectFails(t, stmt.Statement, api.DSyntax, "a :=@", "a, b := c,@", "a := @:= b", "a := b @:= c", "a := b @= c", "a := b@++", "a, @:= b", "a, b, @:= c", "@:= a", "a.b @:= c", "(a) @:= b", "*a @:= b", "1 @:= a", "a, b.c @:= d", "a[0], b @:= c", "a := @;", "a := b @c", "a := @range b", "f() @:= a")
}

// TestAssign: P6.2, assignments by all signs.
func TestAssign(t *testing.T) {
	probe.ExpectReads(t, stmt.Statement, []reads{
		{"a = 1", "NAssign<NList<a> = NList<1>>"}, {"a, b = c, d", "NAssign<NList<a , b> = NList<c , d>>"}, {"a, b, c = f()", "NAssign<NList<a , b , c> = NList<NCall<f ( )>>>"}, {"a = b, c", "NAssign<NList<a> = NList<b , c>>"}, {"a.b, c[0], *d, (e) = T{}, 1", "NAssign<NList<NSel<a . b> , NIndex<c [ 0 ]> , NStar<* d> , NParen<( e )>> = NList<NComp<T { }> , 1>>"}, {"_ = a", "NAssign<NList<_> = NList<a>>"}, {"1 + 2 = f()", "NAssign<NList<NBinary<1 + 2>> = NList<NCall<f ( )>>>"},
	})
	for _, sign := range []string{"+=", "-=", "*=", "/=", "%=", "&=", "|=", "^=", "<<=", ">>=", "&^="} {
		probe.ExpectReads(t, stmt.Statement, []reads{
			{"a " + sign + " b", "NAssign<NList<a> " + sign + " NList<b>>"}, {"a.b " + sign + " c + T{}", "NAssign<NList<NSel<a . b>> " + sign + " NList<NBinary<c + NComp<T { }>>>>"},
		})
		probe.ExpectFails(t, stmt.Statement, api.DSyntax, "a, b @"+sign+" c", "a, b @"+sign+" c, d", "a "+sign+" b@, c", "a "+sign+"@", "@"+sign+" a", "a "+sign+" b @"+sign+" c", "a "+sign+" @= b", "a := b @"+sign+" c")
	}
	probe.ExpectFails(t, stmt.Statement, api.DSyntax, "a =@", "a, b =@", "a = b,@", "@= a", "a,@", "a, @= b", "a = b @= c", "a = @= b", "a, b@", "a, b@;", "a, b, c@ ", "a = b @:= c", "a = b@++", "a == @= b")
}

// TestInc: P6.2.
func TestInc(t *testing.T) {
	probe.ExpectReads(t, stmt.Statement, []reads{
		{"a++", "NInc<a ++>"}, {"a--", "NInc<a -->"}, {"*a[b] ++", "NInc<NStar<* NIndex<a [ b ]>> ++>"}, {"a + b--", "NInc<NBinary<a + b> -->"},
	})
	probe.ExpectFails(t, stmt.Statement, api.DSyntax, "a, b@++", "a, b @--", "a++ @b", "a++ @++", "a++ @= b", "@++a", "a++@, b", "a ++@--")
}

// TestMere: P6.2, an expression as a statement.
func TestMere(t *testing.T) {
	probe.ExpectReads(t, stmt.Statement, []reads{
		{"f()", "NExpr<NCall<f ( )>>"}, {"a", "NExpr<a>"}, {"1", "NExpr<1>"}, {"(a)", "NExpr<NParen<( a )>>"}, {"-a * b", "NExpr<NBinary<NUnary<- a> * b>>"}, {"*a", "NExpr<NStar<* a>>"}, {"T{}", "NExpr<NComp<T { }>>"}, {"[]a{b}", "NExpr<NComp<NSlice<[ ] a> { b }>>"}, {"struct{}{}.a", "NExpr<NSel<NComp<NStruct<struct { }> { }> . a>>"}, {"func() { return }()", "NExpr<NCall<NFn<func NSig<NParams<( )> _> NFlat<{ return }>> ( )>>"}, {"a.(type)", "NExpr<NGuard<a . ( type )>>"},
	})
	probe.ExpectFails(t, stmt.Statement, api.DSyntax, "a @b", "f() @{}", "f(@", "@)", "@,", "@else", "@range a", "@import", "@package", "@...", "@:", "@.a", "a {@", "(a) @: b")
}

// TestBlock: P6.3.
func TestBlock(t *testing.T) {
	probe.ExpectReads(t, stmt.Block, []reads{
		{"{}", "NBlock<{ }>"}, {"{ a }", "NBlock<{ NExpr<a> }>"}, {"{ a; }", "NBlock<{ NExpr<a> ; }>"}, {"{ a; b }", "NBlock<{ NExpr<a> ; NExpr<b> }>"}, {"{\n\ta\n\n\tb // c\n}", "NBlock<{ NExpr<a> · NExpr<b> · }>"}, {"{ ; }", "NBlock<{ NEmpty<> ; }>"}, {"{ ; ; a; ; }", "NBlock<{ NEmpty<> ; NEmpty<> ; NExpr<a> ; NEmpty<> ; }>"}, {"{ a\n; }", "NBlock<{ NExpr<a> · NEmpty<> ; }>"}, {"{ {} }", "NBlock<{ NBlock<{ }> }>"}, {"{ {}; { a } }", "NBlock<{ NBlock<{ }> ; NBlock<{ NExpr<a> }> }>"}, {"{ a = b; c++; d() }", "NBlock<{ NAssign<NList<a> = NList<b>> ; NInc<c ++> ; NExpr<NCall<d ( )>> }>"},
	})
	probe.ExpectFails(t, stmt.Block, api.DSyntax, "@", "@a", "@;", "@}", "{@", "{ a@", "{ a;@", "{ a @b }", "{ @case }", "{ a; @case b: }", "{ @default: }", "{ a @default: }", "{} @}", "{} @a", "{}@;", "{ @) }", "{ a @) }", "{ {} @a }", "{ {@", "{ {}@", "{ a; @, }", "{ f(@} }", "{ if a {} @b }", "{ a: @}")
	for _, c := range []struct {
		text string
		kind int
	}{{"{} else", api.TElse}, {"{ a } }", api.TRbrace}, {"{}; a", api.TSemi}} {
		r := expr.NewReader(probe.Tokens(c.text))
		stmt.Block(r)
		if r.Kind() != c.kind || r.Last() != api.NBlock || r.Mark() != 1 {
			t.Errorf("%q: %d comes behind %d", c.text, r.Kind(), r.Last())
		}
	}
}

// TestEmpty: P6.4, where no statement is, whatever it is that comes: its place is behind the last significant token, and nothing is read.
func TestEmpty(t *testing.T) {
	for _, c := range []struct {
		text     string
		takes    int
		kind, at int
	}{
		{"", 0, 0, 0}, {"  ", 0, 0, 0}, {" ;", 0, api.TSemi, 1}, {" }", 0, api.TRbrace, 1}, {"a ;", 1, api.TSemi, 1}, {"a\n;", 1, api.TAuto, 1}, {"{ /**/ }", 1, api.TRbrace, 1}, {" a ", 1, 0, 2}, {"a b }", 2, api.TRbrace, 3},
	} {
		r := expr.NewReader(probe.Tokens(c.text))
		for range c.takes {
			r.Take()
		}
		mark := r.Mark()
		stmt.Statement(r)
		if r.Kind() != c.kind || r.Last() != api.NEmpty || r.Mark() != mark+1 {
			t.Errorf("%q: %d comes behind %d", c.text, r.Kind(), r.Last())
		}
		for r.Kind() != 0 {
			r.Take()
		}
		row, _, _ := r.Done()
		if want := (api.Node{Kind: api.NEmpty, From: c.at, To: c.at}); len(row) <= mark || !probe.Same(row[mark], want) {
			t.Errorf("%q: %v, want %v at %d", c.text, row, want, mark)
		}
	}
	probe.ExpectFails(t, stmt.Statement, api.DSyntax, "@case a:", "@default:", "@)", "@]")
}

// TestWorded: P6.4, statements that begin with a word of their own.
func TestWorded(t *testing.T) {
	probe.ExpectReads(t, stmt.Statement, []reads{
		{"return", "NReturn<return _>"}, {"return a", "NReturn<return NList<a>>"}, {"return a, b + T{}", "NReturn<return NList<a , NBinary<b + NComp<T { }>>>>"}, {"return func() { return }", "NReturn<return NList<NFn<func NSig<NParams<( )> _> NFlat<{ return }>>>>"},
		{"break", "NBreak<break _>"}, {"break a", "NBreak<break a>"}, {"continue", "NCont<continue _>"}, {"continue a", "NCont<continue a>"}, {"fallthrough", "NFall<fallthrough>"},
		{"defer f()", "NDefer<defer NCall<f ( )>>"}, {"defer func() { a }()", "NDefer<defer NCall<NFn<func NSig<NParams<( )> _> NFlat<{ a }>> ( )>>"}, {"defer T{}.a()", "NDefer<defer NCall<NSel<NComp<T { }> . a> ( )>>"}, {"defer a", "NDefer<defer a>"},
		{"{ a }", "NBlock<{ NExpr<a> }>"}, {"const a = 1", "NConst<const NSpec<NList<a> _ = NList<1>>>"}, {"var a b", "NVar<var NSpec<NList<a> b _>>"}, {"type a b", "NType<type NTSpec<a _ b>>"},
		{"if a {}", "NIf<if _ a NBlock<{ }> _>"}, {"for {}", "NFor<for _ _ _ NBlock<{ }>>"}, {"switch {}", "NSwitch<switch _ _ { }>"},
	})
	probe.ExpectReads(t, stmt.Block, []reads{
		{"{ return }", "NBlock<{ NReturn<return _> }>"}, {"{ return; a }", "NBlock<{ NReturn<return _> ; NExpr<a> }>"}, {"{ return\na }", "NBlock<{ NReturn<return _> · NExpr<a> }>"}, {"{ break\na }", "NBlock<{ NBreak<break _> · NExpr<a> }>"}, {"{ continue; a: for {} }", "NBlock<{ NCont<continue _> ; NLabel<a : NFor<for _ _ _ NBlock<{ }>>> }>"},
		{"{ switch { case a: return case b: return; default: break case c: return d } }", "NBlock<{ NSwitch<switch _ _ { NCase<case NList<a> : NReturn<return _>> NCase<case NList<b> : NReturn<return _> ;> NCase<default _ : NBreak<break _>> NCase<case NList<c> : NReturn<return NList<d>>> }> }>"},
		{"{ switch { case a: return default: } }", "NBlock<{ NSwitch<switch _ _ { NCase<case NList<a> : NReturn<return _>> NCase<default _ :> }> }>"},
	})
	probe.ExpectFails(t, stmt.Statement, api.DSyntax, "return a,@", "return @, a", "return @)", "return a @b", "return @:= a", "return a @= b", "return @return", "break @1", "break a@.b", "break a @b", "break @(a)", "continue @1", "continue a@, b", "fallthrough @a", "fallthrough@()", "defer@", "defer @;", "defer @}", "defer f()@, g()", "defer a @= b", "defer @return", "const@", "var@", "type@", "if@", "for@", "switch@", "break @break", "func @f() {}")
}

// TestLabel: P6.4, labels stand ahead of loops and switches alone.
func TestLabel(t *testing.T) {
	probe.ExpectReads(t, stmt.Statement, []reads{
		{"a: for {}", "NLabel<a : NFor<for _ _ _ NBlock<{ }>>>"}, {"a:\n\tfor range b {}", "NLabel<a : NRange<for _ range b NBlock<{ }>>>"}, {"a: switch {}", "NLabel<a : NSwitch<switch _ _ { }>>"}, {"a: switch b.(type) {}", "NLabel<a : NTSwitch<switch _ _ NGuard<b . ( type )> { }>>"}, {"_ : for {}", "NLabel<_ : NFor<for _ _ _ NBlock<{ }>>>"},
	})
	probe.ExpectFails(t, stmt.Statement, api.DSyntax, "a:@", "a: @b", "a: @{}", "a: @if b {}", "a: @;", "a: @}", "a: @b: for {}", "a: @return", "a: @: for {}", "a.b@: for {}", "(a)@: for {}", "1@: for {}", "a, b@: for {}", "a: for {} @b", "a: for@", "a: @func", "a: @case")
}
