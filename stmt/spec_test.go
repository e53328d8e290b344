package stmt_test

import (
	"testing"

	"scholiast/api"
	"scholiast/expr"
	"scholiast/probe"
	"scholiast/stmt"
)

// TestConst: P6.8.
func TestConst(t *testing.T) {
	probe.ExpectReads(t, stmt.Const, []reads{
		{"const a = 1", "NConst<const NSpec<NList<a> _ = NList<1>>>"}, {"const a, b = 1, c + 2", "NConst<const NSpec<NList<a , b> _ = NList<1 , NBinary<c + 2>>>>"}, {"const a b = c", "NConst<const NSpec<NList<a> b = NList<c>>>"}, {"const a, b c.d = e, f", "NConst<const NSpec<NList<a , b> NSel<c . d> = NList<e , f>>>"}, {"const a", "NConst<const NSpec<NList<a> _ _>>"}, {"const a []b = c", "NConst<const NSpec<NList<a> NSlice<[ ] b> = NList<c>>>"}, {"const a = T{}", "NConst<const NSpec<NList<a> _ = NList<NComp<T { }>>>>"},
		{"const ()", "NConst<const ( )>"}, {"const (a)", "NConst<const ( NSpec<NList<a> _ _> )>"}, {"const (a; b, c;)", "NConst<const ( NSpec<NList<a> _ _> ; NSpec<NList<b , c> _ _> ; )>"}, {"const (\n\ta = b\n\tc\n\td e = f\n)", "NConst<const ( NSpec<NList<a> _ = NList<b>> · NSpec<NList<c> _ _> · NSpec<NList<d> e = NList<f>> · )>"}, {"const (a = 1)", "NConst<const ( NSpec<NList<a> _ = NList<1>> )>"},
	})
	probe.ExpectReads(t, stmt.Block, []reads{
		{"{ const a; b }", "NBlock<{ NConst<const NSpec<NList<a> _ _>> ; NExpr<b> }>"}, {"{ const a\nb }", "NBlock<{ NConst<const NSpec<NList<a> _ _>> · NExpr<b> }>"}, {"{ const a = b }", "NBlock<{ NConst<const NSpec<NList<a> _ = NList<b>>> }>"}, {"{ const (a) }", "NBlock<{ NConst<const ( NSpec<NList<a> _ _> )> }>"},
	})
	probe.ExpectFails(t, stmt.Const, api.DSyntax,
		"@", "@var a", "@(a)", "const@", "const @= a", "const a =@", "const a, b = c,@", "const a b@", "const a b@;", "const a b @c", "const a b =@", "const a = b @= c", "const a b = c @d", "const a @:= b", "const a @}", "const a @1", "const a = @;", "const a[@", "const a[] @= b", "const a @+= b", "const a = b @c",
		"const (@", "const (a@", "const (a;@", "const (a @}", "const (@;)", "const (a; @;)", "const (a @1)", "const (a b@)", "const (a b@; c)", "const (a = @)", "const (a = b, @)", "const (a) @b", "const () @a", "const (a, @)", "const (a @:= b)", "const (@(a))", "const (a = b @c)")
	probe.ExpectFails(t, stmt.Block, api.DSyntax, "{ const a @}", "{ const a b@; }", "{ const @}", "{ const (a @} ) }", "{ const () @a }")
}

// TestVar: P6.8.
func TestVar(t *testing.T) {
	probe.ExpectReads(t, stmt.Var, []reads{
		{"var a b", "NVar<var NSpec<NList<a> b _>>"}, {"var a, b c", "NVar<var NSpec<NList<a , b> c _>>"}, {"var a = b", "NVar<var NSpec<NList<a> _ = NList<b>>>"}, {"var a, b = c, d", "NVar<var NSpec<NList<a , b> _ = NList<c , d>>>"}, {"var a b = c", "NVar<var NSpec<NList<a> b = NList<c>>>"}, {"var a, _ []b = f()", "NVar<var NSpec<NList<a , _> NSlice<[ ] b> = NList<NCall<f ( )>>>>"}, {"var a [n]b", "NVar<var NSpec<NList<a> NArray<[ n ] b> _>>"}, {"var a func() b", "NVar<var NSpec<NList<a> NFunc<func NSig<NParams<( )> b>> _>>"}, {"var a func() = b", "NVar<var NSpec<NList<a> NFunc<func NSig<NParams<( )> _>> = NList<b>>>"}, {"var a = func() { b = c }", "NVar<var NSpec<NList<a> _ = NList<NFn<func NSig<NParams<( )> _> NFlat<{ b = c }>>>>>"},
		{"var ()", "NVar<var ( )>"}, {"var (a b)", "NVar<var ( NSpec<NList<a> b _> )>"}, {"var (a b; c = d; e f = g;)", "NVar<var ( NSpec<NList<a> b _> ; NSpec<NList<c> _ = NList<d>> ; NSpec<NList<e> f = NList<g>> ; )>"}, {"var (\n\ta, b *c\n)", "NVar<var ( NSpec<NList<a , b> NStar<* c> _> · )>"},
	})
	probe.ExpectReads(t, stmt.Block, []reads{{"{ var a b }", "NBlock<{ NVar<var NSpec<NList<a> b _>> }>"}, {"{ var a b; c }", "NBlock<{ NVar<var NSpec<NList<a> b _>> ; NExpr<c> }>"}})
	probe.ExpectFails(t, stmt.Var, api.DSyntax,
		"@", "@const a = b", "@type a b", "var@", "var a@", "var a@;", "var a @)", "var a,@", "var a =@", "var a b =@", "var a = b @= c", "var a b = c @= d", "var a = b @c", "var a b @c", "var a b@, c", "var a @:= b", "var a @1", "var @1 = a", "var a = b,@", "var @= a", "var a@.b", "var a @...b", "var a b @{}",
		"var (@", "var (a@)", "var (a b@", "var (a b;@", "var (@;)", "var (a b @c d)", "var (a@; b c)", "var (a b) @= c", "var (a b@, c d)", "var (a = b; c@)", "var (@var a b)", "var ()@;")
}

// TestType: P6.8.
func TestType(t *testing.T) {
	probe.ExpectReads(t, stmt.Type, []reads{
		{"type a b", "NType<type NTSpec<a _ b>>"}, {"type a = b", "NType<type NTSpec<a _ = b>>"}, {"type a struct { b c }", "NType<type NTSpec<a _ NStruct<struct { NField<b c> }>>>"}, {"type a = []b", "NType<type NTSpec<a _ = NSlice<[ ] b>>>"}, {"type a *b", "NType<type NTSpec<a _ NStar<* b>>>"}, {"type a (b)", "NType<type NTSpec<a _ NParen<( b )>>>"}, {"type a func(b) c", "NType<type NTSpec<a _ NFunc<func NSig<NParams<( NParam<b> )> c>>>>"}, {"type a b.c[d]", "NType<type NTSpec<a _ NIndex<NSel<b . c> [ d ]>>>"},
		{"type ()", "NType<type ( )>"}, {"type (a b)", "NType<type ( NTSpec<a _ b> )>"}, {"type (a b; c = d; e[f any] g;)", "NType<type ( NTSpec<a _ b> ; NTSpec<c _ = d> ; NTSpec<e NTParams<[ NParam<f any> ]> g> ; )>"}, {"type (\n\ta b\n\tc d\n)", "NType<type ( NTSpec<a _ b> · NTSpec<c _ d> · )>"},
	})
	probe.ExpectReads(t, stmt.Block, []reads{{"{ type a b }", "NBlock<{ NType<type NTSpec<a _ b>> }>"}, {"{ type a b; c }", "NBlock<{ NType<type NTSpec<a _ b>> ; NExpr<c> }>"}})
	probe.ExpectFails(t, stmt.Type, api.DSyntax,
		"@", "@var a b", "type@", "type a@", "type a@;", "type a =@", "type a = @= b", "type a b @= c", "type a@, b c", "type @1 a", "type a @1", "type a @:= b", "type a @{}", "type a b @c", "type a b@, c", "type @= a", "type @struct {}", "type a @...", "type a@.b c", "type a b@{}",
		"type (@", "type (a@)", "type (a b@", "type (a b;@", "type (@;)", "type (a b @c d)", "type (a b; c@)", "type (a b) @c", "type (a b@, c d)")
}

// TestTypeParams: P6.8, in brackets behind a type's name stand parameters, or they are an array's or a slice's.
func TestTypeParams(t *testing.T) {
	probe.ExpectReads(t, stmt.Type, []reads{
		{"type a[b c] d", "NType<type NTSpec<a NTParams<[ NParam<b c> ]> d>>"}, {"type a[b, c d] e", "NType<type NTSpec<a NTParams<[ NParam<b , c d> ]> e>>"}, {"type a[b ~c] d", "NType<type NTSpec<a NTParams<[ NParam<b NUnion<NTilde<~ c>>> ]> d>>"}, {"type a[b interface{}] c", "NType<type NTSpec<a NTParams<[ NParam<b NIface<interface { }>> ]> c>>"}, {"type a[b func()] c", "NType<type NTSpec<a NTParams<[ NParam<b NFunc<func NSig<NParams<( )> _>>> ]> c>>"}, {"type a[b map[c]d] e", "NType<type NTSpec<a NTParams<[ NParam<b NMap<map [ c ] d>> ]> e>>"}, {"type a[b struct{}] c", "NType<type NTSpec<a NTParams<[ NParam<b NStruct<struct { }>> ]> c>>"}, {"type a[b []c] d", "NType<type NTSpec<a NTParams<[ NParam<b NSlice<[ ] c>> ]> d>>"}, {"type a[b c | d, e f] []g", "NType<type NTSpec<a NTParams<[ NParam<b NUnion<c | d>> , NParam<e f> ]> NSlice<[ ] g>>>"}, {"type a[b c,] d", "NType<type NTSpec<a NTParams<[ NParam<b c> , ]> d>>"}, {"type a[b c.d] struct {}", "NType<type NTSpec<a NTParams<[ NParam<b NSel<c . d>> ]> NStruct<struct { }>>>"},
		{"type a []b", "NType<type NTSpec<a _ NSlice<[ ] b>>>"}, {"type a [b]c", "NType<type NTSpec<a _ NArray<[ b ] c>>>"}, {"type a [2]b", "NType<type NTSpec<a _ NArray<[ 2 ] b>>>"}, {"type a [...]b", "NType<type NTSpec<a _ NArray<[ NRest<...> ] b>>>"}, {"type a [b*c]d", "NType<type NTSpec<a _ NArray<[ NBinary<b * c> ] d>>>"}, {"type a [b.c]d", "NType<type NTSpec<a _ NArray<[ NSel<b . c> ] d>>>"}, {"type a [b(c)]d", "NType<type NTSpec<a _ NArray<[ NCall<b ( c )> ] d>>>"}, {"type a [b[c]]d", "NType<type NTSpec<a _ NArray<[ NIndex<b [ c ]> ] d>>>"}, {"type a [b{}]c", "NType<type NTSpec<a _ NArray<[ NComp<b { }> ] c>>>"}, {"type a [b|c]d", "NType<type NTSpec<a _ NArray<[ NBinary<b | c> ] d>>>"}, {"type a [(b)]c", "NType<type NTSpec<a _ NArray<[ NParen<( b )> ] c>>>"}, {"type a [struct{}{}]b", "NType<type NTSpec<a _ NArray<[ NComp<NStruct<struct { }> { }> ] b>>>"}, {"type a = [b]c", "NType<type NTSpec<a _ = NArray<[ b ] c>>>"},
	})
	probe.ExpectFails(t, stmt.Type, api.DSyntax,
		"type a[b c] @= d", "type a[b, c d] @= e", "type a[b []c] @= d", "type a[b c]@", "type a[b c]@;", "type a[b c@", "type a[b c @1] d", "type a[b,@] c", "type a[b, c@] d", "type a[b ~@] c", "type a[b *c@, d e] f", "type a [b@", "type a []@", "type a [b]@", "type a [@", "type a [b*c @d] e", "type a [b [c] @d] e", "type a [b (c) @d] e", "type a [1 @b] c", "type a[b []@", "type a[b c, @, d e] f", "type a[b c][d @e] f", "type a = [b @c] d")
}

// TestFollows: P6.8, what comes behind a declaration is left.
func TestFollows(t *testing.T) {
	for _, c := range []struct {
		read procedure
		text string
		kind int
	}{
		{stmt.Const, "const a; b", api.TSemi}, {stmt.Const, "const (a) b", api.TIdent}, {stmt.Const, "const a = b\nc", api.TAuto}, {stmt.Const, "const a)", api.TRparen}, {stmt.Const, "const a = b }", api.TRbrace},
		{stmt.Var, "var a b }", api.TRbrace}, {stmt.Var, "var a b)", api.TRparen}, {stmt.Var, "var (a b); c", api.TSemi}, {stmt.Type, "type a b = c", api.TAssign}, {stmt.Type, "type a b, c", api.TComma},
	} {
		r := expr.NewReader(probe.Tokens(c.text))
		c.read(r)
		if k := r.Last(); r.Kind() != c.kind || r.Mark() != 1 || k != api.NConst && k != api.NVar && k != api.NType {
			t.Errorf("%q: %d comes behind %d", c.text, r.Kind(), r.Last())
		}
	}
}
