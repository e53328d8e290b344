package stmt_test

import (
	"testing"

	"scholiast/api"
	"scholiast/expr"
	"scholiast/probe"
	"scholiast/stmt"
)

// TestIf: P6.5.
func TestIf(t *testing.T) {
	probe.ExpectReads(t, stmt.Statement, []reads{
		{"if a {}", "NIf<if _ a NBlock<{ }> _>"}, {"if a { b; c }", "NIf<if _ a NBlock<{ NExpr<b> ; NExpr<c> }> _>"}, {"if a == b && !c {}", "NIf<if _ NBinary<NBinary<a == b> && NUnary<! c>> NBlock<{ }> _>"},
		{"if ; a {}", "NIf<if _ ; a NBlock<{ }> _>"}, {"if a := b; c {}", "NIf<if NDefine<NList<a> := NList<b>> ; c NBlock<{ }> _>"}, {"if a, b := c\nd {}", "NIf<if NDefine<NList<a , b> := NList<c>> · d NBlock<{ }> _>"}, {"if a; b {}", "NIf<if NExpr<a> ; b NBlock<{ }> _>"}, {"if a\nb {}", "NIf<if NExpr<a> · b NBlock<{ }> _>"}, {"if a = b; c {}", "NIf<if NAssign<NList<a> = NList<b>> ; c NBlock<{ }> _>"}, {"if a, b = b, a; c {}", "NIf<if NAssign<NList<a , b> = NList<b , a>> ; c NBlock<{ }> _>"}, {"if a += b; c {}", "NIf<if NAssign<NList<a> += NList<b>> ; c NBlock<{ }> _>"}, {"if a++; b {}", "NIf<if NInc<a ++> ; b NBlock<{ }> _>"},
		{"if a {} else {}", "NIf<if _ a NBlock<{ }> else NBlock<{ }>>"}, {"if a {} else if b {}", "NIf<if _ a NBlock<{ }> else NIf<if _ b NBlock<{ }> _>>"}, {"if a {} else if b := c; d {} else { e }", "NIf<if _ a NBlock<{ }> else NIf<if NDefine<NList<b> := NList<c>> ; d NBlock<{ }> else NBlock<{ NExpr<e> }>>>"}, {"if a {\n\tb\n} else if c {\n} else {\n}", "NIf<if _ a NBlock<{ NExpr<b> · }> else NIf<if _ c NBlock<{ }> else NBlock<{ }>>>"},
		{"if T {}", "NIf<if _ T NBlock<{ }> _>"}, {"if (T{}) {}", "NIf<if _ NParen<( NComp<T { }> )> NBlock<{ }> _>"}, {"if a[T{}] {}", "NIf<if _ NIndex<a [ NComp<T { }> ]> NBlock<{ }> _>"}, {"if f(T{}) {}", "NIf<if _ NCall<f ( NComp<T { }> )> NBlock<{ }> _>"}, {"if []T{} == a {}", "NIf<if _ NBinary<NComp<NSlice<[ ] T> { }> == a> NBlock<{ }> _>"}, {"if a == (T{}); b {}", "NIf<if NExpr<NBinary<a == NParen<( NComp<T { }> )>>> ; b NBlock<{ }> _>"}, {"if func() { b }() {}", "NIf<if _ NCall<NFn<func NSig<NParams<( )> _> NFlat<{ b }>> ( )> NBlock<{ }> _>"}, {"if a := func() { T{} }; b {}", "NIf<if NDefine<NList<a> := NList<NFn<func NSig<NParams<( )> _> NFlat<{ T { } }>>>> ; b NBlock<{ }> _>"}, {"if a.(type) {}", "NIf<if _ NGuard<a . ( type )> NBlock<{ }> _>"},
	})
	probe.ExpectReads(t, stmt.Block, []reads{
		{"{ if a {}; b }", "NBlock<{ NIf<if _ a NBlock<{ }> _> ; NExpr<b> }>"}, {"{ if a { } }", "NBlock<{ NIf<if _ a NBlock<{ }> _> }>"}, {"{ if a { if b {} else {} } else {} }", "NBlock<{ NIf<if _ a NBlock<{ NIf<if _ b NBlock<{ }> else NBlock<{ }>> }> else NBlock<{ }>> }>"},
	})
	probe.ExpectFails(t, stmt.Statement, api.DSyntax,
		"if@", "if @{}", "if ; @{}", "if ;@", "if ; @; a {}", "if a@", "if a @b", "if a @}", "if a {@", "if a; @{}", "if a;@", "if a\n@{}", "if a; b@; {}", "if a; b@; c {}", "if a := b @{}", "if a := b@", "if a := b; @{}", "if a := b; c @:= d {}", "if a = b @{}", "if a++ @{}", "if a += b @{}", "if a, b @{}", "if a, b@; c {}", "if a := T @{}; b {}", "if T {} @{}",
		"if a {} @b", "if a {} else@", "if a {} else @a", "if a {} else @;", "if a {} else @for {}", "if a {} else if@", "if a {} else if @{}", "if a {} else if b@", "if a {} else {} @else {}", "if a {} else {} @b", "if a {}@; else {}", "if a { @else {}", "if (a {} @{}) {}", "if @var a = b; c {}", "if @return; a {}", "if a @: b {}", "if @if a {}", "if a @range b {}", "if a ; b @= c {}", "if a; b @, c {}", "if a; b@++ {}")
}

// TestIfFollows: P6.5, an else in a line of its own belongs to no if.
func TestIfFollows(t *testing.T) {
	for _, c := range []struct {
		text string
		kind int
	}{{"if a {}\nelse {}", api.TElse}, {"if a {}; b", api.TIdent}, {"if a {} }", api.TRbrace}, {"if a {} case", api.TCase}, {"if a {} else {} else", api.TElse}} {
		r := expr.NewReader(probe.Tokens(c.text))
		stmt.Statement(r)
		if r.Last() != api.NIf || r.Mark() != 1 {
			t.Errorf("%q: %d was read", c.text, r.Last())
		}
		if k := r.Kind(); k == api.TSemi || k == api.TAuto {
			r.Take()
		}
		if r.Kind() != c.kind {
			t.Errorf("%q: %d comes", c.text, r.Kind())
		}
	}
}

// TestSwitch: P6.6, switches that ask for a value, or for nothing.
func TestSwitch(t *testing.T) {
	probe.ExpectReads(t, stmt.Statement, []reads{
		{"switch {}", "NSwitch<switch _ _ { }>"}, {"switch a {}", "NSwitch<switch _ a { }>"}, {"switch ; {}", "NSwitch<switch _ ; _ { }>"}, {"switch ; a {}", "NSwitch<switch _ ; a { }>"}, {"switch a; {}", "NSwitch<switch NExpr<a> ; _ { }>"}, {"switch a; b {}", "NSwitch<switch NExpr<a> ; b { }>"}, {"switch a := b; {}", "NSwitch<switch NDefine<NList<a> := NList<b>> ; _ { }>"}, {"switch a := b; c {}", "NSwitch<switch NDefine<NList<a> := NList<b>> ; c { }>"}, {"switch a := b()\n{}", "NSwitch<switch NDefine<NList<a> := NList<NCall<b ( )>>> · _ { }>"}, {"switch a := b\nc {}", "NSwitch<switch NDefine<NList<a> := NList<b>> · c { }>"}, {"switch a++; b + c {}", "NSwitch<switch NInc<a ++> ; NBinary<b + c> { }>"}, {"switch a, b = b, a; {}", "NSwitch<switch NAssign<NList<a , b> = NList<b , a>> ; _ { }>"}, {"switch a -= b; {}", "NSwitch<switch NAssign<NList<a> -= NList<b>> ; _ { }>"},
		{"switch (T{}) {}", "NSwitch<switch _ NParen<( NComp<T { }> )> { }>"}, {"switch (a.(type)) {}", "NSwitch<switch _ NParen<( NGuard<a . ( type )> )> { }>"}, {"switch a.(type).b {}", "NSwitch<switch _ NSel<NGuard<a . ( type )> . b> { }>"}, {"switch -a.(type) {}", "NSwitch<switch _ NUnary<- NGuard<a . ( type )>> { }>"}, {"switch a.(type); {}", "NSwitch<switch NExpr<NGuard<a . ( type )>> ; _ { }>"}, {"switch a.(type); b {}", "NSwitch<switch NExpr<NGuard<a . ( type )>> ; b { }>"}, {"switch a := b.(type); c {}", "NSwitch<switch NDefine<NList<a> := NList<NGuard<b . ( type )>>> ; c { }>"}, {"switch a = b.(type); {}", "NSwitch<switch NAssign<NList<a> = NList<NGuard<b . ( type )>>> ; _ { }>"}, {"switch a.(b) {}", "NSwitch<switch _ NAssert<a . ( b )> { }>"},
	})
	probe.ExpectFails(t, stmt.Statement, api.DSyntax,
		"switch@", "switch ;@", "switch ; @; {}", "switch a@", "switch a @b {}", "switch a, b @{}", "switch a := b @{}", "switch a := b@", "switch a = b @{}", "switch a++ @{}", "switch a; b@; {}", "switch a; b @= c {}", "switch a; b@, c {}", "switch a; b @:= c {}", "switch @}", "switch {@", "switch { @a }", "switch {} @a", "switch {} @else {}", "switch @case a: {}", "switch @var a = b; {}", "switch a @T {}", "switch @range a {}", "switch { @; }", "switch { @{} }", "switch @)", "switch a\n@)", "switch a {@)")
}

// TestTypeSwitch: P6.6, switches that ask for a type, with a name and without.
func TestTypeSwitch(t *testing.T) {
	const f = "func() { switch { } ; }"
	probe.ExpectReads(t, stmt.Statement, []reads{
		{"switch a.(type) {}", "NTSwitch<switch _ _ NGuard<a . ( type )> { }>"}, {"switch a := b.(type) {}", "NTSwitch<switch _ a := NGuard<b . ( type )> { }>"}, {"switch _ := b.(type) {}", "NTSwitch<switch _ _ := NGuard<b . ( type )> { }>"}, {"switch ; a.(type) {}", "NTSwitch<switch _ ; _ NGuard<a . ( type )> { }>"}, {"switch ; a := b.(type) {}", "NTSwitch<switch _ ; a := NGuard<b . ( type )> { }>"}, {"switch a; b.(type) {}", "NTSwitch<switch NExpr<a> ; _ NGuard<b . ( type )> { }>"}, {"switch a := b; c.(type) {}", "NTSwitch<switch NDefine<NList<a> := NList<b>> ; _ NGuard<c . ( type )> { }>"}, {"switch a := b; c := d.(type) {}", "NTSwitch<switch NDefine<NList<a> := NList<b>> ; c := NGuard<d . ( type )> { }>"}, {"switch a := b\nc := d.(type) {}", "NTSwitch<switch NDefine<NList<a> := NList<b>> · c := NGuard<d . ( type )> { }>"}, {"switch a\nb.(type) {}", "NTSwitch<switch NExpr<a> · _ NGuard<b . ( type )> { }>"},
		{"switch a.b().(type) {}", "NTSwitch<switch _ _ NGuard<NCall<NSel<a . b> ( )> . ( type )> { }>"}, {"switch a := b[c{}].(type) {}", "NTSwitch<switch _ a := NGuard<NIndex<b [ NComp<c { }> ]> . ( type )> { }>"}, {"switch a := (b).(type) {}", "NTSwitch<switch _ a := NGuard<NParen<( b )> . ( type )> { }>"}, {"switch a.(type).(type) {}", "NTSwitch<switch _ _ NGuard<NGuard<a . ( type )> . ( type )> { }>"}, {"switch a := b.(type).(type) {}", "NTSwitch<switch _ a := NGuard<NGuard<b . ( type )> . ( type )> { }>"},
		{"switch a := b.(type)\nc.(type) {}", "NTSwitch<switch NDefine<NList<a> := NList<NGuard<b . ( type )>>> · _ NGuard<c . ( type )> { }>"},
		{"switch a := " + f + ".(type) {}", "NTSwitch<switch _ a := NGuard<NFn<func NSig<NParams<( )> _> NFlat<{ switch { } ; }>> . ( type )> { }>"}, {"switch a := []b{c}.(type) {}", "NTSwitch<switch _ a := NGuard<NComp<NSlice<[ ] b> { c }> . ( type )> { }>"},
	})
	probe.ExpectReads(t, stmt.Statement, []reads{
		{"switch a := b; c { case d: switch e.(type) {} }", "NSwitch<switch NDefine<NList<a> := NList<b>> ; c { NCase<case NList<d> : NTSwitch<switch _ _ NGuard<e . ( type )> { }>> }>"}, {"switch a := func() { switch b.(type) {} }; c {}", "NSwitch<switch NDefine<NList<a> := NList<NFn<func NSig<NParams<( )> _> NFlat<{ switch b . ( type ) { } }>>>> ; c { }>"}, {"switch a := f(b.(type)); c {}", "NSwitch<switch NDefine<NList<a> := NList<NCall<f ( NGuard<b . ( type )> )>>> ; c { }>"},
	})
	probe.ExpectFails(t, stmt.Statement, api.DSyntax,
		"switch a := b@, c.(type) {}", "switch a, b := c.(type) @{}", "switch a := -b.(type) @{}", "switch a := b + c.(type) @{}", "switch a = b.(type) @{}", "switch a := b.(type)@", "switch a := b.(type) @c", "switch a := b.(type).c @{}", "switch a := b.(type)[c] @{}", "switch a := b @{ }.(type) {}", "switch a := b, c @{ }.(type)", "switch a := b@, c { }.(type) {}", "switch a := b; c@, d.(type) {}", "switch a := b; c := d@, e.(type) {}", "switch a := b; c := -d.(type) @{}", "switch a := b; c @:= d {}", "switch a := b; c @:= d.(type); {}", "switch a.(type @b) {}", "switch a := b.(type) {@", "switch a.(type), b @{}", "switch a.(type) { @b }", "switch a := f(b.(type) @{ }) {}", "switch a := (b.(type)) @{}", "switch ; a @:= b; c {}", "switch a; b.(type)@; {}", "switch a := @:= b.(type) {}", "switch a.b @:= c.(type) {}")
}

// TestClauses: P6.6.
func TestClauses(t *testing.T) {
	probe.ExpectReads(t, stmt.Statement, []reads{
		{"switch { case a: }", "NSwitch<switch _ _ { NCase<case NList<a> :> }>"}, {"switch { case a, b + c: d; e; }", "NSwitch<switch _ _ { NCase<case NList<a , NBinary<b + c>> : NExpr<d> ; NExpr<e> ;> }>"}, {"switch { default: a }", "NSwitch<switch _ _ { NCase<default _ : NExpr<a>> }>"}, {"switch { case a: b case c: default: d }", "NSwitch<switch _ _ { NCase<case NList<a> : NExpr<b>> NCase<case NList<c> :> NCase<default _ : NExpr<d>> }>"}, {"switch {\ncase a:\n\tb\n\tfallthrough\ndefault:\n}", "NSwitch<switch _ _ { NCase<case NList<a> : NExpr<b> · NFall<fallthrough> ·> NCase<default _ :> }>"}, {"switch { default: default: }", "NSwitch<switch _ _ { NCase<default _ :> NCase<default _ :> }>"}, {"switch { case a: ; }", "NSwitch<switch _ _ { NCase<case NList<a> : NEmpty<> ;> }>"},
		{"switch a { case T{}: }", "NSwitch<switch _ a { NCase<case NList<NComp<T { }>> :> }>"}, {"switch a.(type) { case []b, *c, func() d, map[e]f, nil: }", "NTSwitch<switch _ _ NGuard<a . ( type )> { NCase<case NList<NSlice<[ ] b> , NStar<* c> , NFunc<func NSig<NParams<( )> d>> , NMap<map [ e ] f> , nil> :> }>"}, {"switch { case a: b: for {} }", "NSwitch<switch _ _ { NCase<case NList<a> : NLabel<b : NFor<for _ _ _ NBlock<{ }>>>> }>"}, {"switch { case a: switch { case b: } case c: }", "NSwitch<switch _ _ { NCase<case NList<a> : NSwitch<switch _ _ { NCase<case NList<b> :> }>> NCase<case NList<c> :> }>"},
	})
	probe.ExpectFails(t, stmt.Statement, api.DSyntax,
		"switch { case@", "switch { case @: }", "switch { case a@", "switch { case a @}", "switch { case a, @: }", "switch { case a @b: }", "switch { case a:@", "switch { case a: b@", "switch { case a: b @c }", "switch { default @a: }", "switch { default@", "switch { default @}", "switch { case a: }@;", "switch { case a@; }", "switch { case a: b: @}", "switch { case a @= b: }", "switch { case a @:= b: }", "switch { @a: }", "switch { case a: } @case b: }", "switch { case a: @) }", "switch { case a: b @else }", "switch { case @case b: }", "switch { default: default @b: }")
}

// TestFor: P6.7, loops that go through nothing.
func TestFor(t *testing.T) {
	probe.ExpectReads(t, stmt.Statement, []reads{
		{"for {}", "NFor<for _ _ _ NBlock<{ }>>"}, {"for a {}", "NFor<for _ a _ NBlock<{ }>>"}, {"for a < b { c }", "NFor<for _ NBinary<a < b> _ NBlock<{ NExpr<c> }>>"}, {"for ; ; {}", "NFor<for _ ; _ ; _ NBlock<{ }>>"}, {"for ; a; {}", "NFor<for _ ; a ; _ NBlock<{ }>>"}, {"for ; ; a++ {}", "NFor<for _ ; _ ; NInc<a ++> NBlock<{ }>>"}, {"for a := b; c; d++ {}", "NFor<for NDefine<NList<a> := NList<b>> ; c ; NInc<d ++> NBlock<{ }>>"}, {"for a; ; {}", "NFor<for NExpr<a> ; _ ; _ NBlock<{ }>>"}, {"for a; b; c {}", "NFor<for NExpr<a> ; b ; NExpr<c> NBlock<{ }>>"}, {"for a, b = c, d; e; f, g = g, f {}", "NFor<for NAssign<NList<a , b> = NList<c , d>> ; e ; NAssign<NList<f , g> = NList<g , f>> NBlock<{ }>>"}, {"for a += b; ; c -= d {}", "NFor<for NAssign<NList<a> += NList<b>> ; _ ; NAssign<NList<c> -= NList<d>> NBlock<{ }>>"}, {"for a := b\nc\nd() {}", "NFor<for NDefine<NList<a> := NList<b>> · c · NExpr<NCall<d ( )>> NBlock<{ }>>"}, {"for a--; b\n{}", "NFor<for NInc<a --> ; b · _ NBlock<{ }>>"},
		{"for []T{} == a {}", "NFor<for _ NBinary<NComp<NSlice<[ ] T> { }> == a> _ NBlock<{ }>>"}, {"for (T{}) {}", "NFor<for _ NParen<( NComp<T { }> )> _ NBlock<{ }>>"}, {"for f(func() { for range a {} }) {}", "NFor<for _ NCall<f ( NFn<func NSig<NParams<( )> _> NFlat<{ for range a { } }>> )> _ NBlock<{ }>>"}, {"for a { for range b {} }", "NFor<for _ a _ NBlock<{ NRange<for _ range b NBlock<{ }>> }>>"}, {"for a := func() { for range b {} }; ; {}", "NFor<for NDefine<NList<a> := NList<NFn<func NSig<NParams<( )> _> NFlat<{ for range b { } }>>>> ; _ ; _ NBlock<{ }>>"},
	})
	probe.ExpectReads(t, stmt.Block, []reads{
		{"{ for a { }; for range b { } }", "NBlock<{ NFor<for _ a _ NBlock<{ }>> ; NRange<for _ range b NBlock<{ }>> }>"}, {"{ for a {\n}\nfor range b {\n} }", "NBlock<{ NFor<for _ a _ NBlock<{ }>> · NRange<for _ range b NBlock<{ }>> }>"}, {"{ for { }; for range b { } }", "NBlock<{ NFor<for _ _ _ NBlock<{ }>> ; NRange<for _ range b NBlock<{ }>> }>"},
	})
	probe.ExpectFails(t, stmt.Statement, api.DSyntax,
		"for@", "for ;@", "for ; @{}", "for ; ;@", "for ; ; a@", "for ; ; @a := b {}", "for ; ; @a, b := c {}", "for a := b; c; @d := e {}", "for a; b; @c := d; {}", "for a; b @{}", "for a; @{}", "for a := b @{}", "for a := b; c @{}", "for a, b @{}", "for a++ @{}", "for a = b @{}", "for a@", "for a @b {}", "for a {@", "for a {} @b", "for {} @else {}", "for ; ; a, b @{}", "for ; ; a @b {}", "for ; ; @; {}", "for ; a; b@; {}", "for ; a @= b; {}", "for ; a@, b; {}", "for ; a @:= b; {}", "for ; ; @) {}", "for @}", "for a; @) ; {}", "for ; ; a++ @b {}", "for @var a = b; ; {}", "for a {}@; b")
}

// TestRange: P6.7, loops that go through something.
func TestRange(t *testing.T) {
	probe.ExpectReads(t, stmt.Statement, []reads{
		{"for range a {}", "NRange<for _ range a NBlock<{ }>>"}, {"for range 3 { b }", "NRange<for _ range 3 NBlock<{ NExpr<b> }>>"}, {"for a := range b {}", "NRange<for NList<a> := range b NBlock<{ }>>"}, {"for a, b := range c {}", "NRange<for NList<a , b> := range c NBlock<{ }>>"}, {"for a = range b {}", "NRange<for NList<a> = range b NBlock<{ }>>"}, {"for a.b, c[d] = range e {}", "NRange<for NList<NSel<a . b> , NIndex<c [ d ]>> = range e NBlock<{ }>>"}, {"for _, *a = range f(b) {}", "NRange<for NList<_ , NStar<* a>> = range NCall<f ( b )> NBlock<{ }>>"}, {"for range []T{a, b} {}", "NRange<for _ range NComp<NSlice<[ ] T> { a , b }> NBlock<{ }>>"}, {"for range (T{}) {}", "NRange<for _ range NParen<( NComp<T { }> )> NBlock<{ }>>"}, {"for a,\nb :=\nrange c {}", "NRange<for NList<a , b> := range c NBlock<{ }>>"}, {"for f(T{}).a = range b {}", "NRange<for NList<NSel<NCall<f ( NComp<T { }> )> . a>> = range b NBlock<{ }>>"}, {"for (a), 1 = range b {}", "NRange<for NList<NParen<( a )> , 1> = range b NBlock<{ }>>"}, {"for range a { for b := range c {} }", "NRange<for _ range a NBlock<{ NRange<for NList<b> := range c NBlock<{ }>> }>>"}, {"for a := range func() { ; } {}", "NRange<for NList<a> := range NFn<func NSig<NParams<( )> _> NFlat<{ ; }>> NBlock<{ }>>"}, {"for a[func() { ; }] = range b {}", "NRange<for NList<NIndex<a [ NFn<func NSig<NParams<( )> _> NFlat<{ ; }>> ]>> = range b NBlock<{ }>>"},
	})
	probe.ExpectFails(t, stmt.Statement, api.DSyntax,
		"for range@", "for range @{}", "for range a@", "for range a @b {}", "for range a@, b {}", "for range a@; {}", "for range @range a {}", "for range T {} @{}", "for a := range@", "for a := range @{}", "for a := range b@", "for a := range b @= c {}", "for a, b@, c := range d {}", "for a, b@, c, d := range e {}", "for a, b@, c = range d {}", "for a, b@, c.d = range e {}", "for a.b, c@, = range d {}", "for a, @:= range b {}", "for a, @= range b {}", "for a @range b {}", "for a, b @range c {}", "for a @+= range b {}", "for a.b @:= range c {}", "for a, b.c @:= range d {}", "for a := @b, range c {}", "for a := @b range c {}", "for a = @b, range c {}", "for a = @b = range c {}", "for a := @(b) range c {}", "for @:= range a {}", "for @= range a {}", "for a := range b {} @c", "for a, 1 @:= range b {}", "for 1 @:= range b {}", "for a @++ = range b {}", "for range a @:= b {}")
}

// TestOutside: P6.6 and P6.7, what stands within brackets, or behind the first semicolon at depth 0, says nothing of what a head is. Brackets are counted plainly: behind what closes one from ahead of the look nothing stands at depth 0, till another one is opened.
func TestOutside(t *testing.T) {
	probe.ExpectFails(t, stmt.Statement, api.DSyntax,
		"for a := @b range c {}", "for a := @b range c; d {}", "for a := @b(c) range d {}", "for a := @b[c] range d {}", "for a := @b{c} range d {}", "for a := b(@range c) {}", "for a := b @{range c} {}", "for a := @b(;) range c {}", "for a := @b{;} range c {}", "for a := b; @range c {}", "for a := b\n@range c {}", "for a := b(@; range c) {}", "for a := @b(] range c {}", "for a := @b[} range c {}",
		"for a := b@) range c {}", "for a := b@} range c {}", "for a := b@] range c {}", "for a := @b) ( range c {}", "for a := @b} else { range c }", "for a := @b] { range c }", "for a := @b)])[({ range c", "for a := b@)]([({ range c", "for a := b@} else { { range c } }", "for a := @b} ; { range c }", "for a := b@} { ; range c }", "for a := b; @} { range c }", "for a := b@} else { } range c", "for a := @b} else { } } { { range c } }",
		"for a, b@, c } else { range d }", "for a, b@, c { } } else { for range d { } }", "for a, b, c @{ } } else { { for range d { } } }", "for a, b, c @{ }; } else { for range d { } }", "for a, b, c @{ } } ; for range d { }",
		"switch a := b, c @} .(type) {}", "switch a := b@, c } else { d.(type) { } }", "switch a := b@, c { } } else { switch d.(type) { } }", "switch a := b, c @{ }; } else { switch d.(type) { } }", "switch a := b@, c ] ; [ .(type) {", "switch a := b, c @] [ ; .(type) {", "switch a := b, c @} else { ; d.(type) { } }", "switch a := b, c @} else { d.(type) }",
		"switch a := b, c(@.(type) {}) {}", "switch a := b@, (c).(type) {}", "switch a := b@, c[d].(type) {}", "switch a := b, (c.(type) @{}) {}", "switch a := b, c; d @= e.(type) {}", "switch a; b := c@, d } else { e.(type) { } }", "switch a; b @:= c } else { ; d.(type) { } }")
	probe.ExpectReads(t, stmt.Block, []reads{
		{"{ if a { for b { }; } else { for range c { } } }", "NBlock<{ NIf<if _ a NBlock<{ NFor<for _ b _ NBlock<{ }>> ; }> else NBlock<{ NRange<for _ range c NBlock<{ }>> }>> }>"},
		{"{ if a { for b { }; }; if c { for range d { } } }", "NBlock<{ NIf<if _ a NBlock<{ NFor<for _ b _ NBlock<{ }>> ; }> _> ; NIf<if _ c NBlock<{ NRange<for _ range d NBlock<{ }>> }> _> }>"},
		{"{ if a {\nfor b {\n}\n} else {\nfor range c {\n}\n} }", "NBlock<{ NIf<if _ a NBlock<{ NFor<for _ b _ NBlock<{ }>> · }> else NBlock<{ NRange<for _ range c NBlock<{ }>> · }>> }>"},
		{"{ if a { for b { } }; for range c { } }", "NBlock<{ NIf<if _ a NBlock<{ NFor<for _ b _ NBlock<{ }>> }> _> ; NRange<for _ range c NBlock<{ }>> }>"},
		{"{ if a { for { } } else { for range b { } } }", "NBlock<{ NIf<if _ a NBlock<{ NFor<for _ _ _ NBlock<{ }>> }> else NBlock<{ NRange<for _ range b NBlock<{ }>> }>> }>"},
		{"{ if a { for ; b; { } } else { for range c { } } }", "NBlock<{ NIf<if _ a NBlock<{ NFor<for _ ; b ; _ NBlock<{ }>> }> else NBlock<{ NRange<for _ range c NBlock<{ }>> }>> }>"},
		{"{ if a := b; a { switch c := d; c { } } else { switch e := f.(type) { } } }", "NBlock<{ NIf<if NDefine<NList<a> := NList<b>> ; a NBlock<{ NSwitch<switch NDefine<NList<c> := NList<d>> ; c { }> }> else NBlock<{ NTSwitch<switch _ e := NGuard<f . ( type )> { }> }>> }>"},
	})
	probe.ExpectFails(t, stmt.Block, api.DSyntax,
		"{ if a { for b @{ } } else { for range c { } } }", "{ if a { L: for b @{ } } else { for c := range d(e) { } } }", "{ if a { for b @{ } }; if c { for range d { } } }", "{ { for a @{ } }; { for range b { } } }", "{ if a { switch b := c@, d { } } else { switch e.(type) { } } }")
	// The words hold of what comes, be it the next clause's: without a semicolon between, its range is the loop's.
	probe.ExpectFails(t, stmt.Statement, api.DSyntax, "switch { case a: for b @{ } case c: for range d { } }", "switch { case a: for b @{ } case c: range }")
	// A literal's body is read alone, so that nothing behind it counts.
	expectParses(t, []reads{{"{ f(func() { for a { } }, func() { for range b { } }) }", "NBlock<{ NExpr<NCall<f ( NFn<func NSig<NParams<( )> _> NBlock<{ NFor<for _ a _ NBlock<{ }>> }>> , NFn<func NSig<NParams<( )> _> NBlock<{ NRange<for _ range b NBlock<{ }>> }>> )>> }>"}})
	expectParseFails(t, api.DSyntax, "{ if a { for b @{ } } else { for range c { } } }", "{ func() { { for a @{ } }; { for range b { } } } }")
}
