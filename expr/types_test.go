package expr_test

import (
	"testing"

	"scholiast/api"
	"scholiast/expr"
	"scholiast/probe"
)

// TestType: P5.9, types but those of fields and methods.
func TestType(t *testing.T) {
	probe.ExpectReads(t, (*expr.Reader).Type, []reads{
		{"a", "a"}, {"a.b", "NSel<a . b>"}, {"a[b]", "NIndex<a [ b ]>"}, {"a.b[c]", "NIndex<NSel<a . b> [ c ]>"}, {"a[b,]", "NIndex<a [ b , ]>"}, {"a[b, *c, []d]", "NIndex<a [ b , NStar<* c> , NSlice<[ ] d> ]>"}, {"a[b[c], d.e,\n]", "NIndex<a [ NIndex<b [ c ]> , NSel<d . e> , ]>"},
		{"(a)", "NParen<( a )>"}, {"((*a))", "NParen<( NParen<( NStar<* a> )> )>"}, {"*a", "NStar<* a>"}, {"**a.b", "NStar<* NStar<* NSel<a . b>>>"},
		{"[]a", "NSlice<[ ] a>"}, {"[][]a", "NSlice<[ ] NSlice<[ ] a>>"}, {"[n]a", "NArray<[ n ] a>"}, {"[...]a", "NArray<[ NRest<...> ] a>"}, {"[2*n + f(T{})][]a", "NArray<[ NBinary<NBinary<2 * n> + NCall<f ( NComp<T { }> )>> ] NSlice<[ ] a>>"}, {"[[]a{1}[0]]b", "NArray<[ NIndex<NComp<NSlice<[ ] a> { 1 }> [ 0 ]> ] b>"},
		{"map[a]b", "NMap<map [ a ] b>"}, {"map[[2]a]map[b]*c", "NMap<map [ NArray<[ 2 ] a> ] NMap<map [ b ] NStar<* c>>>"},
		{"func()", "NFunc<func NSig<NParams<( )> _>>"}, {"func() func() a", "NFunc<func NSig<NParams<( )> NFunc<func NSig<NParams<( )> a>>>>"}, {"func(a) (b)", "NFunc<func NSig<NParams<( NParam<a> )> NParams<( NParam<b> )>>>"},
		{"struct{}", "NStruct<struct { }>"}, {"interface{}", "NIface<interface { }>"},
	})
	probe.ExpectFails(t, (*expr.Reader).Type, api.DSyntax,
		"@", "@1", "@)", "@~a", "@...a", "@type", "@-a", "@&a", `@"a"`, "@.a", "@;",
		"a.@", "a.@1", "a.@[b]", "a.b@.c", "a[@", "a[@]", "a[b@", "a[b @c]", "a[@1]", "a[b,@", "a[b,@,]", "a[b,@1]", "a[b]@[c]", "a[b]@.c", "a[b@:]", "a @b", "a@{}", "a@()",
		"(@", "(@)", "(a@", "(a@, b)", "(a)@.b", "(a)@[b]", "*@", "*@)", "*@-a", "[@", "[]@", "[]@)", "[n@", "[n @m]a", "[n]@", "[n@, m]a", "[@:]a", "[n@:]a", "[...@", "[... @n]a", "[...]@", "[@)]a", "[n]@1",
		"map@", "map @a", "map[@", "map[@]b", "map[a@", "map[a@, b]c", "map[a]@", "map[a]@)", "map[@1]a", "func@", "func @a()", "func()@{}", "func() (a)@{", "func() a @b")
}

// TestStruct: P5.9, fields, one a line or with semicolons between.
func TestStruct(t *testing.T) {
	probe.ExpectReads(t, (*expr.Reader).Type, []reads{
		{"struct { a b }", "NStruct<struct { NField<a b> }>"}, {"struct { a, b, c d }", "NStruct<struct { NField<a , b , c d> }>"}, {"struct { a b; c d }", "NStruct<struct { NField<a b> ; NField<c d> }>"}, {"struct { a b; }", "NStruct<struct { NField<a b> ; }>"}, {"struct {\n\ta b\n\n\tc, d e // f\n}", "NStruct<struct { NField<a b> · NField<c , d e> · }>"},
		{"struct { a }", "NStruct<struct { NEmbed<a> }>"}, {"struct { a.b }", "NStruct<struct { NEmbed<NSel<a . b>> }>"}, {"struct { *a }", "NStruct<struct { NEmbed<NStar<* a>> }>"}, {"struct { *a.b }", "NStruct<struct { NEmbed<NStar<* NSel<a . b>>> }>"}, {"struct { a; b; *c; d.e; f g }", "NStruct<struct { NEmbed<a> ; NEmbed<b> ; NEmbed<NStar<* c>> ; NEmbed<NSel<d . e>> ; NField<f g> }>"}, {"struct {\n\ta\n\t*b\n\tc.d\n}", "NStruct<struct { NEmbed<a> · NEmbed<NStar<* b>> · NEmbed<NSel<c . d>> · }>"},
		{"struct { a *b }", "NStruct<struct { NField<a NStar<* b>> }>"}, {"struct { a []b }", "NStruct<struct { NField<a NSlice<[ ] b>> }>"}, {"struct { a [n]b }", "NStruct<struct { NField<a NArray<[ n ] b>> }>"}, {"struct { a (b) }", "NStruct<struct { NField<a NParen<( b )>> }>"}, {"struct { a func(b) c; d struct { e } }", "NStruct<struct { NField<a NFunc<func NSig<NParams<( NParam<b> )> c>>> ; NField<d NStruct<struct { NEmbed<e> }>> }>"}, {"struct { a b[c] }", "NStruct<struct { NField<a NIndex<b [ c ]>> }>"},
	})
	probe.ExpectFails(t, (*expr.Reader).Type, api.DSyntax,
		"struct@", "struct @a", "struct @(a b)", "struct {@", "struct { a b@", "struct { a b @c }", "struct { a, @}", "struct { a,@", "struct { a, b @}", "struct { a, b @; }", "struct { @; }", "struct { a b; @; }", "struct { @1 }", "struct { @(a) }", "struct { a @1 }", "struct { a @1; }", `struct { a b @"c" }`, "struct { a @`b` }",
		"struct { *@}", "struct { *@*a }", "struct { *@(a) }", "struct { *a @b }", "struct { *a@[b] }", "struct { *a.@}", "struct { *a.b@.c }", "struct { a.@}", "struct { a.b @c }", "struct { a.b@.c }", "struct { a.b@[c] }", "struct { a[b]@}", "struct { a b@, c d }", "struct { a b@) }", "struct { a, @*b c }", "struct { a@", "struct { @[]a }", "struct { a @... }", "struct { a; b@")
}

// TestInterface: P5.9, methods and unions.
func TestInterface(t *testing.T) {
	probe.ExpectReads(t, (*expr.Reader).Type, []reads{
		{"interface { a() }", "NIface<interface { NMethod<a NSig<NParams<( )> _>> }>"}, {"interface { a(b, c d) e }", "NIface<interface { NMethod<a NSig<NParams<( NParam<b , c d> )> e>> }>"}, {"interface { a() (b) }", "NIface<interface { NMethod<a NSig<NParams<( )> NParams<( NParam<b> )>>> }>"}, {"interface { a(); b() }", "NIface<interface { NMethod<a NSig<NParams<( )> _>> ; NMethod<b NSig<NParams<( )> _>> }>"}, {"interface {\n\ta()\n\tb\n}", "NIface<interface { NMethod<a NSig<NParams<( )> _>> · NUnion<b> · }>"},
		{"interface { a }", "NIface<interface { NUnion<a> }>"}, {"interface { a.b; }", "NIface<interface { NUnion<NSel<a . b>> ; }>"}, {"interface { a[b] }", "NIface<interface { NUnion<NIndex<a [ b ]>> }>"}, {"interface { ~a }", "NIface<interface { NUnion<NTilde<~ a>> }>"}, {"interface { a | b }", "NIface<interface { NUnion<a | b> }>"}, {"interface { ~a | []b | ~*c | (d); e }", "NIface<interface { NUnion<NTilde<~ a> | NSlice<[ ] b> | NTilde<~ NStar<* c>> | NParen<( d )>> ; NUnion<e> }>"}, {"interface { interface { a() } | func() }", "NIface<interface { NUnion<NIface<interface { NMethod<a NSig<NParams<( )> _>> }> | NFunc<func NSig<NParams<( )> _>>> }>"}, {"interface { a |\n b }", "NIface<interface { NUnion<a | b> }>"},
	})
	probe.ExpectFails(t, (*expr.Reader).Type, api.DSyntax,
		"interface@", "interface @a", "interface {@", "interface { a()@", "interface { a() b@() }", "interface { a() b @c }", "interface { @; }", "interface { a(@}", "interface { a @b }", "interface { a@, b() }", "interface { a | @}", "interface { a | @| b }", "interface { @| a }", "interface { ~@}", "interface { ~@~a }", "interface { ~@1 }", "interface { a | ~@", "interface { @1 }", "interface { a.b@() }", "interface { a() @| b }", "interface { a; b@", "interface { a |@\n", "interface { a[@] }")
}

// TestSig: P5.10.
func TestSig(t *testing.T) {
	probe.ExpectReads(t, (*expr.Reader).Sig, []reads{
		{"()", "NSig<NParams<( )> _>"}, {"() ()", "NSig<NParams<( )> NParams<( )>>"}, {"(a) (b, c)", "NSig<NParams<( NParam<a> )> NParams<( NParam<b> , NParam<c> )>>"}, {"() (a b, c ...d)", "NSig<NParams<( )> NParams<( NParam<a b> , NParam<c NDots<... d>> )>>"},
		{"() a", "NSig<NParams<( )> a>"}, {"() a.b[c]", "NSig<NParams<( )> NIndex<NSel<a . b> [ c ]>>"}, {"() *a", "NSig<NParams<( )> NStar<* a>>"}, {"() []a", "NSig<NParams<( )> NSlice<[ ] a>>"}, {"() [n]a", "NSig<NParams<( )> NArray<[ n ] a>>"}, {"() map[a]b", "NSig<NParams<( )> NMap<map [ a ] b>>"}, {"() struct{}", "NSig<NParams<( )> NStruct<struct { }>>"}, {"() interface{}", "NSig<NParams<( )> NIface<interface { }>>"}, {"() func() a", "NSig<NParams<( )> NFunc<func NSig<NParams<( )> a>>>"},
	})
	probe.ExpectFails(t, (*expr.Reader).Sig, api.DSyntax, "@", "@a", "@[a]", "(@", "(a@", "() (@", "() (a@", "() a@, b", "() a @b", "() (a) @b", "() @{}", "() @...a", "() @~a", "() @1", "() *@", "() [@", "() func@", "() (a b, c@)", "() () @()")
	for _, c := range []struct {
		text string
		kind int
	}{{"() {", api.TLbrace}, {"(); a", api.TSemi}, {"() ) a", api.TRparen}, {"() a {", api.TLbrace}, {"() (a) {", api.TLbrace}, {"() = a", api.TAssign}, {"() a b", api.TIdent}, {"() ... a", api.TDots}} {
		r := expr.NewReader(probe.Tokens(c.text))
		r.Sig()
		if r.Kind() != c.kind || r.Last() != api.NSig || r.Mark() != 1 {
			t.Errorf("%q: %d comes behind %d", c.text, r.Kind(), r.Last())
		}
	}
}

// TestParams: P5.11, lists in which none is named, and in which some are.
func TestParams(t *testing.T) {
	probe.ExpectReads(t, (*expr.Reader).Params, []reads{
		{"()", "NParams<( )>"}, {"(a)", "NParams<( NParam<a> )>"}, {"(a,)", "NParams<( NParam<a> , )>"}, {"(a, b)", "NParams<( NParam<a> , NParam<b> )>"}, {"(a, b,\n)", "NParams<( NParam<a> , NParam<b> , )>"}, {"(*a, []b, a.b, (c), func(d))", "NParams<( NParam<NStar<* a>> , NParam<NSlice<[ ] b>> , NParam<NSel<a . b>> , NParam<NParen<( c )>> , NParam<NFunc<func NSig<NParams<( NParam<d> )> _>>> )>"}, {"(...a)", "NParams<( NParam<NDots<... a>> )>"}, {"(...a, b, ...*c,)", "NParams<( NParam<NDots<... a>> , NParam<b> , NParam<NDots<... NStar<* c>>> , )>"}, {"([n]a, map[a]b, struct{}, interface{})", "NParams<( NParam<NArray<[ n ] a>> , NParam<NMap<map [ a ] b>> , NParam<NStruct<struct { }>> , NParam<NIface<interface { }>> )>"},
		{"(a b)", "NParams<( NParam<a b> )>"}, {"(a b,)", "NParams<( NParam<a b> , )>"}, {"(a, b c)", "NParams<( NParam<a , b c> )>"}, {"(a b, c d)", "NParams<( NParam<a b> , NParam<c d> )>"}, {"(a, b, c d, e, f g,)", "NParams<( NParam<a , b , c d> , NParam<e , f g> , )>"}, {"(a ...b)", "NParams<( NParam<a NDots<... b>> )>"}, {"(a, b ...c, d e)", "NParams<( NParam<a , b NDots<... c>> , NParam<d e> )>"}, {"(a *b, c func(d), e (f), g map[h]i, j struct{}, k interface{})", "NParams<( NParam<a NStar<* b>> , NParam<c NFunc<func NSig<NParams<( NParam<d> )> _>>> , NParam<e NParen<( f )>> , NParam<g NMap<map [ h ] i>> , NParam<j NStruct<struct { }>> , NParam<k NIface<interface { }>> )>"}, {"(a b.c, d e[f])", "NParams<( NParam<a NSel<b . c>> , NParam<d NIndex<e [ f ]>> )>"}, {"(a, _ b)", "NParams<( NParam<a , _ b> )>"},
	})
	probe.ExpectReads(t, (*expr.Reader).Params, []reads{
		{"(a []b)", "NParams<( NParam<a NSlice<[ ] b>> )>"}, {"(a [n]b)", "NParams<( NParam<a NArray<[ n ] b>> )>"}, {"(a [...]b)", "NParams<( NParam<a NArray<[ NRest<...> ] b>> )>"}, {"(a[n])", "NParams<( NParam<NIndex<a [ n ]>> )>"}, {"(a[n],)", "NParams<( NParam<NIndex<a [ n ]>> , )>"}, {"(a[n], b)", "NParams<( NParam<NIndex<a [ n ]>> , NParam<b> )>"}, {"(a[b, c], d)", "NParams<( NParam<NIndex<a [ b , c ]>> , NParam<d> )>"}, {"(a, b [n]c)", "NParams<( NParam<a , b NArray<[ n ] c>> )>"}, {"(a, b []c)", "NParams<( NParam<a , b NSlice<[ ] c>> )>"},
		{"(a[b[c]])", "NParams<( NParam<NIndex<a [ NIndex<b [ c ]> ]>> )>"}, {"(a [b[c]]d)", "NParams<( NParam<a NArray<[ NIndex<b [ c ]> ] d>> )>"}, {"(a [b][c]d)", "NParams<( NParam<a NArray<[ b ] NArray<[ c ] d>>> )>"}, {"(a [b]*c)", "NParams<( NParam<a NArray<[ b ] NStar<* c>>> )>"}, {"(a [b]func(c))", "NParams<( NParam<a NArray<[ b ] NFunc<func NSig<NParams<( NParam<c> )> _>>>> )>"}, {"(a [f(b)]c)", "NParams<( NParam<a NArray<[ NCall<f ( b )> ] c>> )>"}, {"(a [T{1}.b]c, d [](e))", "NParams<( NParam<a NArray<[ NSel<NComp<T { 1 }> . b> ] c>> , NParam<d NSlice<[ ] NParen<( e )>>> )>"}, {"(a[[]b], c)", "NParams<( NParam<NIndex<a [ NSlice<[ ] b> ]>> , NParam<c> )>"}, {"(a b[c])", "NParams<( NParam<a NIndex<b [ c ]>> )>"}, {"(a.b[c])", "NParams<( NParam<NIndex<NSel<a . b> [ c ]>> )>"}, {"(a.b[c], d)", "NParams<( NParam<NIndex<NSel<a . b> [ c ]>> , NParam<d> )>"}, {"(a [b](c))", "NParams<( NParam<a NArray<[ b ] NParen<( c )>>> )>"},
	})
}

// TestParamsWrong: P5.11, lists that are none.
func TestParamsWrong(t *testing.T) {
	probe.ExpectFails(t, (*expr.Reader).Params, api.DSyntax,
		"@", "@a", "@)", "(@", "(@,)", "(a@", "(a,@", "(a,@,)", "(a @1)", "(a b@", "(a b @c)", "(a b,@", "(a b,@, c d)", "(...@)", "(a ...@)", "(... @...a)", "(...a @b)", "(@1)", "(@type)", "(a @;)", "(a b@;)", "(a) @b", "(a b) @;", "(*@)", "(a *@)", "(a b@]", "(a @~b)", "(a.@)", "(a.@1)", "(a.b @c)", "(a [@", "(a [n@", "(a[n]@", "(a [n]@1)", "(a[n @m])", "(a[n,@", "(a[]@)", "(a []@, b)", "(a[@1])", "(a [@)")
	probe.ExpectFails(t, (*expr.Reader).Params, api.DSyntax,
		"(a, b.c, d e@)", "(a b, c@)", "(a b, c,@)", "(a, b c, d, e@)", "(*a, b c@)", "(b c, *a@)", "(a b, ...c@)", "(...a, b c@)", "(a[n], b c@)", "(a b, c.d@", "(a, b c, d @{", "(a b, (c), d e@)", "(a b, []c, d e @;", "(func(), a b@)", "(a.b, c []d@)")
}

// TestTParams: P5.12.
func TestTParams(t *testing.T) {
	probe.ExpectReads(t, (*expr.Reader).TParams, []reads{
		{"[a b]", "NTParams<[ NParam<a b> ]>"}, {"[a b,]", "NTParams<[ NParam<a b> , ]>"}, {"[a, b c]", "NTParams<[ NParam<a , b c> ]>"}, {"[a b, c d]", "NTParams<[ NParam<a b> , NParam<c d> ]>"}, {"[a, b c, d, e f,\n]", "NTParams<[ NParam<a , b c> , NParam<d , e f> , ]>"}, {"[a b.c]", "NTParams<[ NParam<a NSel<b . c>> ]>"}, {"[a b[c]]", "NTParams<[ NParam<a NIndex<b [ c ]>> ]>"}, {"[a []b, c *d, e (f)]", "NTParams<[ NParam<a NSlice<[ ] b>> , NParam<c NStar<* d>> , NParam<e NParen<( f )>> ]>"}, {"[a interface{ b() }]", "NTParams<[ NParam<a NIface<interface { NMethod<b NSig<NParams<( )> _>> }>> ]>"},
		{"[a ~b]", "NTParams<[ NParam<a NUnion<NTilde<~ b>>> ]>"}, {"[a b | c]", "NTParams<[ NParam<a NUnion<b | c>> ]>"}, {"[a ~b | c, d e | ~f | g]", "NTParams<[ NParam<a NUnion<NTilde<~ b> | c>> , NParam<d NUnion<e | NTilde<~ f> | g>> ]>"}, {"[a, b ~[]c, d e]", "NTParams<[ NParam<a , b NUnion<NTilde<~ NSlice<[ ] c>>>> , NParam<d e> ]>"}, {"[a [n]b]", "NTParams<[ NParam<a NArray<[ n ] b>> ]>"}, {"[a func(b)]", "NTParams<[ NParam<a NFunc<func NSig<NParams<( NParam<b> )> _>>> ]>"},
	})
	probe.ExpectFails(t, (*expr.Reader).TParams, api.DSyntax,
		"@", "@a", "@(a b)", "[@", "[@]", "[@,]", "[a@", "[a@]", "[a,@", "[a,@]", "[a, b@]", "[a b@", "[a b,@", "[a b,@,]", "[a b, c@]", "[a b @c]", "[a @1]", "[a @...b]", "[@1 a]", "[@*a]", "[a b@;]", "[a ~@]", "[a ~@~b]", "[a b |@]", "[a @| b]", "[a b | @|]", "[a b] @c", "[a b@)", "[a@.b]", "[a, @*b]", "[a b | ~@, c d]", "[a b @c]")
}
