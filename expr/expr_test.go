package expr_test

import (
	"strings"
	"testing"

	"scholiast/api"
	"scholiast/expr"
	"scholiast/probe"
)

// TestExamples: P5.13, P5.8 and the chapter's examples.
func TestExamples(t *testing.T) {
	for _, c := range []reads{
		{"a + b*c", "NBinary<a NBinary<b c>>"},
		{"a - b - c", "NBinary<NBinary<a b> c>"}, {"-a.b", "NUnary<NSel<a b>>"}, {"*p[1]", "NStar<NIndex<p 1>>"},
		{"f(x, y...)", "NCall<f x y>"}, {"m[int, T](1)", "NCall<NIndex<m int T> 1>"}, {"s[:n]", "NCut<s _ n>"}, {"s[1:2:3]", "NCut<s 1 2 3>"},
		{"x.(T)", "NAssert<x T>"}, {"x.(type)", "NGuard<x>"},
		{"[]int{1, 2: 3}", "NComp<NSlice<int> 1 NKey<2 3>>"}, {"T{a: {1}}", "NComp<T NKey<a NVals<1>>>"},
		{"func(a, b int, c ...T) (int, error) { return }", "NFn<NSig<NParams<NParam<a b int> NParam<c NDots<T>>> NParams<NParam<int> NParam<error>>> NFlat<>>"},
		{"func(a []int)", "NFunc<NSig<NParams<NParam<a NSlice<int>>> _>>"}, {"func(a [n]int)", "NFunc<NSig<NParams<NParam<a NArray<n int>>> _>>"}, {"func(a[n])", "NFunc<NSig<NParams<NParam<NIndex<a n>>> _>>"},
	} {
		n, d, ok := expr.Parse(probe.Tokens(c[0]))
		if got := probe.Parts(c[0], n); got != c[1] || d != (api.Diag{}) || !ok {
			t.Errorf("Parse(%q):\n got %s, %v, %v\nwant %s", c[0], got, d, ok, c[1])
		}
	}
	probe.ExpectFails(t, inside, api.DSyntax, "func(a, b.c, d int@)", "a +@", "s[:@:3]")
}

// TestHeadExample: P5.8, `T{}` with head true is a name, and the brace is left.
func TestHeadExample(t *testing.T) {
	r := expr.NewReader(probe.Tokens("T{}"))
	r.X(true)
	if r.Kind() != api.TLbrace || r.Last() != api.NName || r.Mark() != 1 {
		t.Errorf("%d comes behind %d", r.Kind(), r.Last())
	}
}

// TestName: P5.7.
func TestName(t *testing.T) {
	probe.ExpectReads(t, (*expr.Reader).Name, []reads{{"a", "a"}, {"_", "_"}, {" /* */ abc // d", "abc"}})
	probe.ExpectFails(t, (*expr.Reader).Name, api.DSyntax, "@", "@1", "@func", "@(a)", "a @b", "a@.b", "@;")
	r := expr.NewReader(probe.Tokens(" a b"))
	r.Name()
	r.Name()
	row, _, ok := r.Done()
	if len(row) != 4 || row[1].Kind != api.NName || row[3].Kind != api.NName || !ok {
		t.Errorf("%v, %v", row, ok)
	}
}

// TestList: P5.7.
func TestList(t *testing.T) {
	list := func(r *expr.Reader) { r.List(false) }
	probe.ExpectReads(t, list, []reads{
		{"a", "NList<a>"}, {"a, b + c,\nd", "NList<a , NBinary<b + c> , d>"}, {" T{}, f ( ) ", "NList<NComp<T { }> , NCall<f ( )>>"},
	})
	probe.ExpectFails(t, list, api.DSyntax, "@", "@,", "a,@", "a, @, b", "a @b", "a, b@)")
	r := expr.NewReader(probe.Tokens("a, T, []U{}, V {"))
	r.List(true)
	row, d, ok := r.Done()
	if d != (api.Diag{Code: api.DSyntax, From: 15, To: 16}) || ok || len(row) > 0 {
		t.Errorf("a list in a head: %v, %v", row, d)
	}
}

// TestBinary: P5.8, all operators, how strongly they bind, and that equals group to the left.
func TestBinary(t *testing.T) {
	levels := []string{"||", "&&", "== != < <= > >=", "+ - | ^", "* / % << >> & &^"}
	for p, low := range levels {
		for _, x := range strings.Fields(low) {
			for q, high := range levels {
				for _, y := range strings.Fields(high) {
					s := "a " + x + " b " + y + " c"
					want := "NBinary<NBinary<a " + x + " b> " + y + " c>"
					if q > p {
						want = "NBinary<a " + x + " NBinary<b " + y + " c>>"
					}
					probe.ExpectReads(t, inside, []reads{{s, want}})
				}
			}
		}
	}
	probe.ExpectReads(t, inside, []reads{
		{"a || b && c == d + e * f", "NBinary<a || NBinary<b && NBinary<c == NBinary<d + NBinary<e * f>>>>>"},
		{"a * b + c == d && e || f", "NBinary<NBinary<NBinary<NBinary<NBinary<a * b> + c> == d> && e> || f>"},
		{"a + b * c - d", "NBinary<NBinary<a + NBinary<b * c>> - d>"},
		{"a == b == c + d", "NBinary<NBinary<a == b> == NBinary<c + d>>"},
	})
	probe.ExpectFails(t, inside, api.DSyntax, "a +@", "a * @/ b", "a @= b", "a @:= b", "a @~ b", "a @! b", "@/ a", "@= a", "a @++", "a @+= b", "(a + @)", "a && @|| b")
}

// TestUnary: P5.8, operators ahead of an operand.
func TestUnary(t *testing.T) {
	probe.ExpectReads(t, inside, []reads{
		{"+a", "NUnary<+ a>"}, {"-a", "NUnary<- a>"}, {"!a", "NUnary<! a>"}, {"^a", "NUnary<^ a>"}, {"&a", "NUnary<& a>"}, {"*a", "NStar<* a>"},
		{"-*& ^a", "NUnary<- NStar<* NUnary<& NUnary<^ a>>>>"}, {"- /**/ -a", "NUnary<- NUnary<- a>>"}, {"-a*-b", "NBinary<NUnary<- a> * NUnary<- b>>"}, {"a - -b", "NBinary<a - NUnary<- b>>"}, {"a * *b", "NBinary<a * NStar<* b>>"},
		{"-a.b()", "NUnary<- NCall<NSel<a . b> ( )>>"}, {"&T{}", "NUnary<& NComp<T { }>>"}, {"*[]int", "NStar<* NSlice<[ ] int>>"},
	})
	probe.ExpectFails(t, inside, api.DSyntax, "-@", "*@)", "@~a", "!@/a", "@<a", "@||a")
}

// TestOperand: P5.8.
func TestOperand(t *testing.T) {
	probe.ExpectReads(t, inside, []reads{
		{"a", "a"}, {"12", "12"}, {"'a'", "'a'"}, {`"a"`, `"a"`}, {"`a`", "`a`"}, {"(a)", "NParen<( a )>"}, {"((a + b))", "NParen<( NParen<( NBinary<a + b> )> )>"}, {"(T{})", "NParen<( NComp<T { }> )>"},
		{"[]a", "NSlice<[ ] a>"}, {"[n]a", "NArray<[ n ] a>"}, {"map[a]b", "NMap<map [ a ] b>"}, {"struct{}", "NStruct<struct { }>"}, {"interface{}", "NIface<interface { }>"},
		{"func()", "NFunc<func NSig<NParams<( )> _>>"}, {"func() a", "NFunc<func NSig<NParams<( )> a>>"}, {"func() (a)", "NFunc<func NSig<NParams<( )> NParams<( NParam<a> )>>>"},
		{"(func())", "NParen<( NFunc<func NSig<NParams<( )> _>> )>"}, {"func() + a", "NBinary<NFunc<func NSig<NParams<( )> _>> + a>"}, {"func() * a", "NFunc<func NSig<NParams<( )> NStar<* a>>>"},
	})
	probe.ExpectFails(t, inside, api.DSyntax, "@", "@)", "@type", "@...", "@{}", "@;", "@return", "@package", "(@)", "(a@", "(a @b)", "(a@, b)", "(@]", "@= 1", "@case")
}

// TestFn: P5.8, function literals: their bodies are read as far as their braces go.
func TestFn(t *testing.T) {
	const sig = "NFn<func NSig<NParams<( )> _> NFlat<{ "
	probe.ExpectReads(t, inside, []reads{
		{"func() {}", sig + "}>>"}, {"func() { a := ) ] ( [ ; if case 1 }", sig + "a := ) ] ( [ ; if case 1 }>>"}, {"func() { { } {{}} }", sig + "{ } { { } } }>>"}, {"func() {\n\ta\n\n\treturn // b\n}", sig + "a · return · }>>"},
		{"func() {}()", "NCall<" + sig + "}>> ( )>"}, {"func() {}.a", "NSel<" + sig + "}>> . a>"}, {"func() {} == b", "NBinary<" + sig + "}>> == b>"},
		{"func(a b) c { # }", "NFn<func NSig<NParams<( NParam<a b> )> c> NFlat<{ }>>"},
		{"func() func() { }", "NFn<func NSig<NParams<( )> NFunc<func NSig<NParams<( )> _>>> NFlat<{ }>>"},
		{"func() struct{} { }", "NFn<func NSig<NParams<( )> NStruct<struct { }>> NFlat<{ }>>"},
	})
	probe.ExpectReads(t, head, []reads{{"func() {}", sig + "}>>"}, {"func() { T{} }()", "NCall<" + sig + "T { } }>> ( )>"}})
	probe.ExpectFails(t, inside, api.DSyntax, "func() {@", "func() {{}@", "func() { ( ]@ ", "func() {} @{}", "func@", "func @{}", "func @a() {}", "func() {}@}", "func() {} @a")
}

// TestSelection: P5.8, what begins with a period.
func TestSelection(t *testing.T) {
	probe.ExpectReads(t, inside, []reads{
		{"a.b", "NSel<a . b>"}, {"a.b.c", "NSel<NSel<a . b> . c>"}, {"1.a", "NSel<1 . a>"}, {"(a).b", "NSel<NParen<( a )> . b>"}, {"[]a{}.b", "NSel<NComp<NSlice<[ ] a> { }> . b>"}, {"a /**/ . // c\n b", "NSel<a . b>"},
		{"a.(b)", "NAssert<a . ( b )>"}, {"a.(*b.c)", "NAssert<a . ( NStar<* NSel<b . c>> )>"}, {"a.(func())", "NAssert<a . ( NFunc<func NSig<NParams<( )> _>> )>"}, {"a.(b).(c)", "NAssert<NAssert<a . ( b )> . ( c )>"},
		{"a.(type)", "NGuard<a . ( type )>"}, {"a().(type)", "NGuard<NCall<a ( )> . ( type )>"}, {"a.(type).b", "NSel<NGuard<a . ( type )> . b>"},
	})
	probe.ExpectFails(t, inside, api.DSyntax, "a.@", "a.@1", "a.@.b", "a.@[b]", "a.@{}", "a.@type", "a.(@)", "a.(@1)", "a.(b@", "a.(b@, c)", "a.(type@", "a.(type @b)", "a.(b @+ c)", "a.@*b")
}

// TestIndex: P5.8, what stands in brackets.
func TestIndex(t *testing.T) {
	probe.ExpectReads(t, inside, []reads{
		{"a[b]", "NIndex<a [ b ]>"}, {"a[b][c]", "NIndex<NIndex<a [ b ]> [ c ]>"}, {"a[b,]", "NIndex<a [ b , ]>"}, {"a[b, c, d]", "NIndex<a [ b , c , d ]>"}, {"a[b, c,\n]", "NIndex<a [ b , c , ]>"}, {"a[[]b, *c, func()]", "NIndex<a [ NSlice<[ ] b> , NStar<* c> , NFunc<func NSig<NParams<( )> _>> ]>"}, {"a[T{}]", "NIndex<a [ NComp<T { }> ]>"},
		{"a[:]", "NCut<a [ _ : _ ]>"}, {"a[b:]", "NCut<a [ b : _ ]>"}, {"a[:b]", "NCut<a [ _ : b ]>"}, {"a[b:c]", "NCut<a [ b : c ]>"}, {"a[:b:c]", "NCut<a [ _ : b : c ]>"}, {"a[b:c:d]", "NCut<a [ b : c : d ]>"}, {"a[b+1:c][d]", "NIndex<NCut<a [ NBinary<b + 1> : c ]> [ d ]>"}, {"a[ : ]", "NCut<a [ _ : _ ]>"}, {`"a"[T{}:]`, `NCut<"a" [ NComp<T { }> : _ ]>`},
	})
	probe.ExpectReads(t, head, []reads{{"a[T{}]", "NIndex<a [ NComp<T { }> ]>"}, {"a[T{}:T{}:T{}]", "NCut<a [ NComp<T { }> : NComp<T { }> : NComp<T { }> ]>"}, {"a[b, T{}]", "NIndex<a [ b , NComp<T { }> ]>"}})
	probe.ExpectFails(t, inside, api.DSyntax, "a[@", "a[@]", "a[b@", "a[b @c]", "a[@,]", "a[b,@", "a[b,@, c]", "a[b,@,]", "a[:@", "a[:@:]", "a[:@:b]", "a[b:@:c]", "a[b:c:@]", "a[:b:@]", "a[b:c:@", "a[b:c:d@:e]", "a[b:c@, d]", "a[b, c@:]", "a[b:c@)", "a[b:@,]", "a[b:c:d@", "a[b@;]", "a[@~b]", "a[b ||@]")
}

// TestCall: P5.8.
func TestCall(t *testing.T) {
	probe.ExpectReads(t, inside, []reads{
		{"a()", "NCall<a ( )>"}, {"a(b)", "NCall<a ( b )>"}, {"a(b,)", "NCall<a ( b , )>"}, {"a(b, c)", "NCall<a ( b , c )>"}, {"a(b, c,\n)", "NCall<a ( b , c , )>"}, {"a(b...)", "NCall<a ( b ... )>"}, {"a(b, c...,)", "NCall<a ( b , c ... , )>"}, {"a(b)(c)", "NCall<NCall<a ( b )> ( c )>"}, {"a([]b, c)", "NCall<a ( NSlice<[ ] b> , c )>"}, {"a(T{})", "NCall<a ( NComp<T { }> )>"}, {"[]a(b)", "NCall<NSlice<[ ] a> ( b )>"}, {"(*a)(b)", "NCall<NParen<( NStar<* a> )> ( b )>"}, {"1()", "NCall<1 ( )>"}, {"a(func()...)", "NCall<a ( NFunc<func NSig<NParams<( )> _>> ... )>"},
	})
	probe.ExpectReads(t, head, []reads{{"a(T{})", "NCall<a ( NComp<T { }> )>"}, {"a(b, T{}...)", "NCall<a ( b , NComp<T { }> ... )>"}})
	probe.ExpectFails(t, inside, api.DSyntax, "a(@", "a(@,)", "a(b@", "a(b @c)", "a(b,@", "a(b,@, c)", "a(b, c@", "a(@...)", "a(b..., @c)", "a(b...@", "a(b... @c)", "a(b@;)", "a(b...,@,)", "a(b@]", "a(b ... @...)", "a(@type)", "a(b@: c)")
}

// TestValues: P5.8, composite literals.
func TestValues(t *testing.T) {
	probe.ExpectReads(t, inside, []reads{
		{"a{}", "NComp<a { }>"}, {"a.b{}", "NComp<NSel<a . b> { }>"}, {"a[b]{}", "NComp<NIndex<a [ b ]> { }>"}, {"a.b[c, d]{}", "NComp<NIndex<NSel<a . b> [ c , d ]> { }>"}, {"[]a{}", "NComp<NSlice<[ ] a> { }>"}, {"[n]a{}", "NComp<NArray<[ n ] a> { }>"}, {"[...]a{}", "NComp<NArray<[ NRest<...> ] a> { }>"}, {"map[a]b{}", "NComp<NMap<map [ a ] b> { }>"}, {"struct{}{}", "NComp<NStruct<struct { }> { }>"}, {"[]func(){}", "NComp<NSlice<[ ] NFunc<func NSig<NParams<( )> _>>> { }>"},
		{"a{b}", "NComp<a { b }>"}, {"a{b,}", "NComp<a { b , }>"}, {"a{b, c: d,\n}", "NComp<a { b , NKey<c : d> , }>"}, {"a{{}, {b}: {c: d}}", "NComp<a { NVals<{ }> , NKey<NVals<{ b }> : NVals<{ NKey<c : d> }>> }>"}, {"a{b: {}, {}}", "NComp<a { NKey<b : NVals<{ }>> , NVals<{ }> }>"}, {"a{b{}}", "NComp<a { NComp<b { }> }>"}, {"a{b + c: *d}", "NComp<a { NKey<NBinary<b + c> : NStar<* d>> }>"}, {"a{}.b()", "NCall<NSel<NComp<a { }> . b> ( )>"}, {"a{}[0]", "NIndex<NComp<a { }> [ 0 ]>"}, {"a{{b,},}", "NComp<a { NVals<{ b , }> , }>"},
	})
	probe.ExpectReads(t, head, []reads{
		{"[]a{}", "NComp<NSlice<[ ] a> { }>"}, {"[n]a{b{}}", "NComp<NArray<[ n ] a> { NComp<b { }> }>"}, {"map[a]b{c: d{}}", "NComp<NMap<map [ a ] b> { NKey<c : NComp<d { }>> }>"}, {"struct{}{}", "NComp<NStruct<struct { }> { }>"}, {"(a{})", "NParen<( NComp<a { }> )>"}, {"x == [2]int{y{}, {}}", "NBinary<x == NComp<NArray<[ 2 ] int> { NComp<y { }> , NVals<{ }> }>>"},
	})
	probe.ExpectFails(t, inside, api.DSyntax, "a{@", "a{b@", "a{@,}", "a{b @c}", "a{b,@", "a{b,@,}", "a{b:@}", "a{b: c@: d}", "a{@:b}", "a{b: c @d}", "a{b@;}", "a{b@\n}", "a{{@", "a{{}@", "a{{} @b}", "a{b: {@:c}}", "a{b@)", "a{b@...}",
		"a.b.c@{}", "a()@{}", "(a)@{}", "*a{}@{}", "a[b][c]@{}", "a.b.c[d]@{}", "a().b@{}", "a{}@{}", "a.(b)@{}", "a[:]@{}", "1@{}", "[]a{}@{}", "interface{}@{}", "a.(type)@{}", "[]a.b{}@{}", "a().b[c]@{}", "1[a]@{}")
	probe.ExpectFails(t, head, api.DSyntax, "a@{}", "a.b@{}", "a[b]@{}", "a.b[c]@{}", "-a@{}", "*a@{}", "a + b@{}", "[]a{}.b@{}", "interface{}@{}", "a == b@{}")
}

// TestParse: P5.13, the node alone, whatever trivia are around it; the diagnostic, and the zero node, if it fails.
func TestParse(t *testing.T) {
	for _, c := range []struct {
		text string
		n    api.Node
		d    api.Diag
	}{
		{"a", api.Node{Kind: api.NName, From: 0, To: 1, Kids: []api.Node{{Kind: api.TIdent, From: 0, To: 1}}}, api.Diag{}},
		{"\n /**/ 17 // b\n", api.Node{Kind: api.NLit, From: 7, To: 9, Kids: []api.Node{{Kind: api.TInt, From: 7, To: 9}}}, api.Diag{}},
		{" a /**/ . b ", api.Node{Kind: api.NSel, From: 1, To: 11, Kids: []api.Node{
			{Kind: api.NName, From: 1, To: 2, Kids: []api.Node{{Kind: api.TIdent, From: 1, To: 2}}}, {Kind: api.TSpace, From: 2, To: 3}, {Kind: api.TBlock, From: 3, To: 7}, {Kind: api.TSpace, From: 7, To: 8},
			{Kind: api.TPeriod, From: 8, To: 9}, {Kind: api.TSpace, From: 9, To: 10}, {Kind: api.NName, From: 10, To: 11, Kids: []api.Node{{Kind: api.TIdent, From: 10, To: 11}}},
		}}, api.Diag{}},
		{"", api.Node{}, api.Diag{Code: api.DSyntax}},
		{"  ", api.Node{}, api.Diag{Code: api.DSyntax}},
		{"a ) ", api.Node{}, api.Diag{Code: api.DSyntax, From: 2, To: 3}},
		{"a.b c", api.Node{}, api.Diag{Code: api.DSyntax, From: 4, To: 5}},
		{" a + // b\n", api.Node{}, api.Diag{Code: api.DSyntax, From: 4, To: 4}},
	} {
		n, d, ok := expr.Parse(probe.Tokens(c.text))
		if !probe.Same(n, c.n) || d != c.d || ok != (d == api.Diag{}) {
			t.Errorf("Parse(%q): %v, %v, %v, want %v, %v", c.text, n, d, ok, c.n, c.d)
		}
	}
	if n, d, ok := expr.Parse([]api.Tok{{Kind: api.TSpace, From: 7, To: 9}}); !probe.Same(n, api.Node{}) || d != (api.Diag{Code: api.DSyntax, From: 7, To: 7}) || ok {
		t.Errorf("Parse of a blank: %v, %v, %v", n, d, ok)
	}
	l := append(probe.Tokens("a"), api.Tok{Kind: api.TAuto, From: 1, To: 1})
	if n, d, ok := expr.Parse(l); !probe.Same(n, api.Node{}) || d != (api.Diag{Code: api.DSyntax, From: 1, To: 1}) || ok {
		t.Errorf("Parse of a and a semicolon: %v, %v, %v", n, d, ok)
	}
}

// TestTrivia: DOC.md's Reading, trivia ahead of a token stand in the innermost node that has significant tokens, or NNones, on both sides of them.
func TestTrivia(t *testing.T) {
	for _, c := range []reads{
		{"/*1*/a/*2*/+/*3*/b/*4*/./*5*/c/*6*/", "NBinary<a /*2*/ + /*3*/ NSel<b /*4*/ . /*5*/ c>>"},
		{"a/*1*/./*2*/b/*3*/*/*4*/-/*5*/c", "NBinary<NSel<a /*1*/ . /*2*/ b> /*3*/ * /*4*/ NUnary<- /*5*/ c>>"},
		{"a/*1*/[/*2*/:/*3*/]", "NCut<a /*1*/ [ _ /*2*/ : _ /*3*/ ]>"},
		{"a[/*1*/b/*2*/,/*3*/]/*4*/(/*5*/)", "NCall<NIndex<a [ /*1*/ b /*2*/ , /*3*/ ]> /*4*/ ( /*5*/ )>"},
		{"f(/*1*/a/*2*/,/*3*/b/*4*/.../*5*/,/*6*/)", "NCall<f ( /*1*/ a /*2*/ , /*3*/ b /*4*/ ... /*5*/ , /*6*/ )>"},
		{"[/*1*/]/*2*/a/*3*/{/*4*/b/*5*/:/*6*/{/*7*/c/*8*/}/*9*/,/*10*/}", "NComp<NSlice<[ /*1*/ ] /*2*/ a> /*3*/ { /*4*/ NKey<b /*5*/ : /*6*/ NVals<{ /*7*/ c /*8*/ }>> /*9*/ , /*10*/ }>"},
		{"func/*1*/(/*2*/a/*3*/,/*4*/b/*5*/c/*6*/,/*7*/d/*8*/.../*9*/e/*10*/,/*11*/)/*12*/{/*13*/}", "NFn<func /*1*/ NSig<NParams<( /*2*/ NParam<a /*3*/ , /*4*/ b /*5*/ c> /*6*/ , /*7*/ NParam<d /*8*/ NDots<... /*9*/ e>> /*10*/ , /*11*/ )> _> /*12*/ NFlat<{ /*13*/ }>>"},
		{"func(/*1*/a/*2*/,/*3*/b/*4*/)/*5*/(/*6*/)/*7*/+x", "NBinary<NFunc<func NSig<NParams<( /*1*/ NParam<a> /*2*/ , /*3*/ NParam<b> /*4*/ )> /*5*/ NParams<( /*6*/ )>>> /*7*/ + x>"},
		{"struct/*1*/{/*2*/a/*3*/;/*4*/b/*5*/,/*6*/c/*7*/d/*8*/;/*9*/*/*10*/e/*11*/./*12*/f/*13*/}", "NStruct<struct /*1*/ { /*2*/ NEmbed<a> /*3*/ ; /*4*/ NField<b /*5*/ , /*6*/ c /*7*/ d> /*8*/ ; /*9*/ NEmbed<NStar<* /*10*/ NSel<e /*11*/ . /*12*/ f>>> /*13*/ }>"},
		{"interface/*1*/{/*2*/m/*3*/(/*4*/)/*5*/;/*6*/~/*7*/a/*8*/|/*9*/b/*10*/}", "NIface<interface /*1*/ { /*2*/ NMethod<m /*3*/ NSig<NParams<( /*4*/ )> _>> /*5*/ ; /*6*/ NUnion<NTilde<~ /*7*/ a> /*8*/ | /*9*/ b> /*10*/ }>"},
		{"x./*1*/(/*2*/map/*3*/[/*4*/a/*5*/]/*6*/[/*7*/.../*8*/]/*9*/b/*10*/)", "NAssert<x . /*1*/ ( /*2*/ NMap<map /*3*/ [ /*4*/ a /*5*/ ] /*6*/ NArray<[ /*7*/ NRest<...> /*8*/ ] /*9*/ b>> /*10*/ )>"},
	} {
		n, d, ok := expr.Parse(probe.Tokens(c[0]))
		if got := probe.Whole(c[0], n); got != c[1] || !ok {
			t.Errorf("Parse(%q):\n got %s, %v\nwant %s", c[0], got, d, c[1])
		}
	}
}
