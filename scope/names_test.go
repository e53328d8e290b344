package scope_test

import "testing"

// TestPackageNames: P12.4, what the files of a package declare is seen in all of them; of one name the first one counts.
func TestPackageNames(t *testing.T) {
	expect(t, "package p; const a#ca, b#cb = 1, 2; var c#va d@ta", "package p; type d#ta int; var e = a@ca + b@cb + c@va + f@fa(); func f#fa() int")
	expect(t, "package p; var e = a@va", "package p; var a#va, a!401 int", "package p; const a!401 = 1; func a!401() {}; type a!401 a@va")
	expect(t, "package p; const a#ca, a!401 = 1, a@ca; func f() { _ = a@ca }")
	expect(t, "package p; var _ = 1; var _ = 2; func _() {}; func _() { _ = _!402 }; type _ int; const _ = _!402")
	expect(t, "package p; func init() {}; func init() { init!402() }; func main#fm() { main@fm() }")
	expect(t, "package p; var init#vi int; func f() { _ = init@vi }", "package p; func init() {}; type init!401 int")
	expect(t, "package p; type T#ta int; func (T@ta) m() { m!402(); T@ta(1).m() }; func (T@ta) m() {}; func (t T@ta) T() {}")
	expect(t, "package p; var int#va = 1; var x = int@va; func f() { nil#vb := int@va; nil@vb() }")
	expect(t, "package p; func f#fa() { f@fa(); f#va := f@fa; f@va() }")
}

// TestImports: P12.4, by which name a file knows what it imports, and that other files do not.
func TestImports(t *testing.T) {
	expect(t, `package p; import $p1q "a/b"; import( $p2r "c"); var x = q@p1.b + r@p2.c + b!402.x`)
	for _, path := range []string{`"a/q"`, `"q"`, `"A/é/q"`, `"/q"`, "`x//q`", `"a/\x71"`} {
		expect(t, "package p; import$p1 "+path+"; var x = q@p1.y", "package p; var y = q!402.y")
		expect(t, "package p; import« "+path+"»!404")
	}
	expect(t, `package p; import$p1 "a/q2_"; import$p2 "_z0"; var x = q2_@p1.y + _z0@p2.y`)
	// One that no word of its path names is not known, and so it need not be used.
	for _, path := range []string{`"a/Q"`, `"q/"`, `""`, `"/"`, `"a/q.r"`, `"a/qé"`, `"q-r"`, `"q "`, `"a/_"`, `"_"`, "`q\n`", `"q\\"`, `"\xff"`} {
		expect(t, "package p; import "+path+"; var x = q!402.y", "package p")
	}
	expect(t, `package p; import _ "q"; import _ "q"; var x = _!402.y; var z = q!402.y`)
	// One whose word is a keyword, or a number, is known, but no name means it.
	expect(t, `package p; import« "a/func"»!404; import« "7"»!404`)
	expect(t, `package p; import $p1q "a"; func f(q#va int) { q@va.x() }; func g() { q@p1.x() }`)
	expect(t, `package p; import$p1 "int"; var x int@p1.y`)
	expect(t, `package p; import $p1init "q"; func init() { init@p1.x() }`)
	expect(t, `package p; import $p1q "a"; var x q@p1.T; type T struct { q q@p1.q; q@p1.E }; var y = q@p1`)
}

// TestImportsAgain: P12.4, an import of a name that the package, or an import ahead of it, declares is none; the same name in two files is two imports.
func TestImportsAgain(t *testing.T) {
	expect(t, `package p; import $p1q "a"; import «q "b"»!401; import« "q"»!401; var x = q@p1.x`)
	expect(t, `package p; import «q "a"»!404; import («q "b"»!401;« "c/q"»!401); import $p1r "r"; var x = r@p1.x`)
	expect(t, `package p; import «x "a"»!401; import «y "b"»!401; import «y "b"»!401; var z = x@va.x`, "package p; var x#va = 1; func y() {}")
	expect(t, `package p; import« "x"»!401`, `package p; import $p1q "a"; var y = q@p1.y; const x = 1`, `package p; import$p2 "b/q"; var z = q@p2.z`)
	expect(t, `package p; import «m "x"»!404; type T#ta int; func (T@ta) m() {}; var _ = T@ta.m`)
}

// TestFunctions: P12.4, a function's parameters and results, and what its body declares, are one scope; signatures elsewhere have their own.
func TestFunctions(t *testing.T) {
	expect(t, "package p; func f(x int, y ...int) (z int) { var x!401 int; var z!401 = 1; const y!401 = 1 }")
	expect(t, "package p; type R#ta int; func (r R@ta) f(r!401 int) (r!401 int) { type r!401 int }")
	expect(t, "package p; func f[P, Q any, P!401 any](Q!401 int) (P!401 int) { var P!401 int }")
	expect(t, "package p; var f = func(x int, x!401 int) (y, y!401 int) { var x!401 int }")
	expect(t, "package p; func f(x#v1 int) { { x#v2 := x@v1; { var x#v3 = x@v2; _ = x@v3 }; _ = x@v2 }; _ = x@v1 }")
	expect(t, "package p; func f(x func(x int, y int, y!401 int) (x!401 int), y interface { m(x, x!401 int); n(x int) (x!401 int) }) { _ = func(x int) {} }")
	expect(t, "package p; var x func(a int) (b, a!401 int); type y interface { a(a int) }; type z struct { a func(a, b, b!401 int) }")
	expect(t, "package p; func f(a#v1 int) { var x#v2 func(a int) = a@v1; _ = x@v2; _ = a@v1 }")
	expect(t, "package p; func f(_, _ int) (_, _ int) { _ = func(_, _ int, _ ...int) {} }")
	expectBody(t,
		"f#v1 := func(x#v2 int) { «x@v2»!401 := 1; { x#v3 := x@v2; _ = x@v3 } }; f@v1(1)",
		"defer func() { x#v1 := 1; _ = x@v1 }(); x#v2 := 1; _ = x@v2",
	)
}

// TestScopes: P12.4, which statements have scopes of their own.
func TestScopes(t *testing.T) {
	expectBody(t,
		"x#v1 := 1; if x#v2 := x@v1; x@v2 { x#v3 := x@v2; _ = x@v3 } else if x#v4 := x@v2; x@v4 { _ = x@v4 } else { var x#v5 = x@v4; _ = x@v5 }; _ = x@v1",
		"x#v1 := 1; if x!403 := x@v1; 1 { }",
		"x#v1 := 1; for x#v2 := x@v1; x@v2; x@v2++ { x#v3 := x@v2; _ = x@v3 }; _ = x@v1",
		"x#v1 := 1; for x#v2, y#v3 := range x@v1 { x#v4 := x@v2 + y@v3; _ = x@v4 }; _ = x@v1",
		"for i#v1 := range 3 { i!403 := i@v1 }",
		"x#v1 := 1; switch x#v2 := x@v1; x@v2 { case x@v2: x#v3 := x@v2; _ = x@v3; default: x#v4 := x@v2; _ = x@v4; case x@v2: _ = x@v2 }; _ = x@v1",
		"x#v1 := 1; switch x#v2 := x@v1; x#v3 := x@v2.(type) { case x@v2: _ = x@v3; «x@v3»!401 := 1; case nil: { x#v4 := x@v3; _ = x@v4 } }; _ = x@v1",
		"switch { case 1: x#v2 := 1; _ = x@v2; case x!402: x#v3 := 1; _ = x@v3 }",
		"switch { case 1: var x#v2 int; var x!401 int; _ = x@v2; default: var x#v3 int; _ = x@v3 }",
		"var x#v1 int; { const x#c2 = 1; { type x#t3 int; _ = x@t3(1) }; _ = x@c2 }; _ = x@v1",
		"L!406: for x#v1 := 1; ; { x#v2 := x@v1; _ = x@v2 }",
		"var x#v1, y#v2, x!401 int; type y!401 int; const z = y@v2; func() { _ = x@v1 }()",
	)
}

// TestTypeParams: P12.4 and P12.5, type parameters of functions and of types.
func TestTypeParams(t *testing.T) {
	expect(t, "package p; func f[P#ta Q@tb, Q#tb interface { ~[]P@ta | R@tc }, R#tc any](p#va P@ta, q Q@tb) R@tc { type S#td []R@tc; var x#vb S@td; _ = x@vb; return p@va }")
	expect(t, "package p; type T[P#ta Q@tb, Q#tb any] struct { P P@ta; q Q@tb }; var x P!402")
	expect(t, "package p; type T#ta[T#tb any] struct { T@tb; t T@tb }; var x T@ta[int]")
	expect(t, "package p; type T[P any, P!401 any, _ any] int; type U[P any] int; func g[_, _ any]() { }")
	expect(t, "package p; func f() { type T#ta[P#tb any] struct { t *T@ta[P@tb] }; _ = T@ta[P!402]{} }")
	expect(t, "package p; type T[P#tb any] struct { f func(P P@tb) P@tb; g interface { m(P P@tb) P@tb } }")
}

// TestReceivers: P12.5, names behind the type's name in a receiver declare type parameters, ahead of all others.
func TestReceivers(t *testing.T) {
	const begin = "package p; type T#t0[P, Q any] int; "
	for _, receiver := range []string{"T@t0[P#t1, Q#t2]", "*T@t0[P#t1, Q#t2]", "(*T@t0[P#t1, Q#t2])", "*(T@t0[P#t1, Q#t2])", "((*((T@t0[P#t1, Q#t2,]))))"} {
		expect(t, begin+"func (t#v1 "+receiver+") m(p#v2 P@t1) Q@t2 { _ = p@v2; _ = t@v1; return P@t1 }")
		expect(t, begin+"func ("+receiver+") m(p P@t1) Q@t2")
	}
	expect(t, begin+"func (t **T@t0[P!402, Q!402]) m(p P!402) {}")
	expect(t, begin+"func (t []T@t0[P!402]) m() {}; func (t T@t0) n(p P!402) {}")
	expect(t, begin+"func (t T@t0[P#t1, []P@t1]) m(p P@t1) {}; func (t T@t0[Q!402.R, (P!402)]) n() {}; func (t q!402.T[P#t2]) o(p P@t2) {}")
	expect(t, begin+"func (t T@t0[P, P!401]) m() {}; func (P!401 T@t0[P, _]) n() {}; func (t T@t0[_, _]) o() {}; func (_ T@t0[_, P]) P() {}")
	expect(t, begin+"func (t T@t0[P, Q]) m(P!401 int) (Q!401 int) {}; func (t T@t0[P#t1, Q]) n[R#t2 P@t1, P!401 R@t2]() {}")
	expect(t, begin+"func (t T@t1[T#t1, Q]) m(p T@t1) {}")
	// What is more than one parameter, or none, or no receiver, names no type parameters.
	expect(t, begin+"func (t T@t0[P!402], u int) m(p P!402) {}; func () n() {}; func (t, u T@t0[P#t1]) o(p P@t1) {}; func (t ...T@t0[P!402]) q() {}")
	expect(t, "package p; func f(t T!402[P!402]) { }; func (t int) g(t!401 int) {}")
	expect(t, "package p; type T#t0 int; func (T#v0 T@t0) m(x T@t0) { _ = T@v0 }")
}
