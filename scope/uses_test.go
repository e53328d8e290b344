package scope_test

import "testing"

// TestOrders: P12.5, in which order the parts of declarations and statements come.
func TestOrders(t *testing.T) {
	// Types of parameters and results are none of the names beside them.
	expect(t, "package p; type a#ta int; func f(a a@ta, b a@ta) (c a@ta)")
	expect(t, "package p; func f(a b!402, b a!402) (c c!402); var g = func(a a!402) (b a!402) { }; type h func(a a!402)")
	expectBody(t,
		// Specs: an alias is not seen in its own type, another type is.
		"x#v1 := 1; { var x#v2, y#v3 x@v1 = x@v1, y!402; _ = x@v2 + y@v3 }; { const x#c4, y x@v1 = x@v1, 2; _ = x@c4 }",
		"var ( a#v1 = 1; b#v2 = a@v1; c!403 = d!402; d!403 = 1 ); _ = b@v2",
		"const ( a#c1 = iota; b#c2; c = a@c1 + b@c2 + c!402; d )",
		"type T#t1 []T@t1; type U = []U!402; type ( V#t2 struct { V *V@t2 }; W#t3 V@t2; X = W@t3 )",
		"type T#t1 int; { type T#t2 = T@t1; type U T@t2 }; { type T#t3 T@t3; type V T@t3 }",
		// Definitions, and what they are made of.
		"x#v1, y#v2 := 1, 2; { x#v3, y#v4 := y@v2, x@v1; x@v3(y@v4) }",
		"f#v1 := func() { f!402(); g!402() }; var g#v2 = func() { f@v1(); g!402() }; g@v2()",
		// A for's last statement comes behind its body, where nothing of it is seen.
		"for i#v1 := 0; i@v1; i@v1, j!402 = 1, k!402 { j#v2 := i@v1; j@v2() }",
		"x#v1 := 1; for x#v2, y!403 := range x@v1 + y!402 { _ = x@v2 }",
		"for x!402[y!402] = range z!402 { }; for range a!402 { }",
		// A clause's list is ahead of its scope.
		"x#v1 := 1; switch { case x@v1: x#v2 := x@v1; _ = x@v2 }",
		"x#v1 := 1; switch x#v2 := x@v1.(type) { case x@v1: _ = x@v2; case []x@v1, y!402: }",
		"switch x#v1 := 1; y#v2 := x@v1.(type) { case int: _ = y@v2; x#v3 := x@v1; x@v3() }",
		"switch x#v1 := y!402; x@v1 { case x@v1: }",
		// What is declared further on means nothing.
		"_ = x!402; x#v1 := 1; { _ = x@v1 }; { _ = y!402 }; y#v2 := 2; y@v2()",
		"if x!402 { }; if x#v1 := 1; x@v1 { }; x!402()",
	)
}

// TestUses: P12.6, what uses a name, and what does not.
func TestUses(t *testing.T) {
	expectBody(t,
		"var a#v1, b#v2 int; a@v1.b(a@v1.b.a, b@v2.a); (a@v1).b = (b@v2).a; a@v1.b.a++",
		"var a#v1 int; _ = -a@v1 + (*a@v1) * a@v1[a@v1:a@v1:a@v1] / a@v1[a@v1] << a@v1.(a@v1) != a@v1(a@v1, a@v1...); defer a@v1()",
		"var a#v1 int; _ = []a@v1{a@v1, {a@v1}, a@v1: a@v1}; _ = [...]a@v1{}; _ = [a@v1]a@v1{}; _ = map[a@v1]a@v1{}; _ = a@v1{}; _ = a@v1[a@v1]{}; _ = a@v1.b{}",
		"type a#t1 int; var _ struct { a a@t1; b, a *a@t1; a@t1; *a@t1; b!402.a }",
		"type a#t1 int; var _ interface { a(a a@t1) a@t1; a@t1; ~a@t1 | []a@t1; b!402.a }",
		"type a#t1 int; var _ func(a a@t1, b ...a@t1) (a@t1, a@t1); var _ func(a@t1, ...a@t1) (b a@t1)",
		"a#v1 := 1; a@v1++; b#v2 := 1; b@v2 += 1; c#v3 := 1; d!402 <<= c@v3",
		"a#v1 := 1; for a@v1 { }; if a@v1 { }; switch a@v1 { }; return a@v1, a@v1",
		"a#v1 := 1; for range a@v1 { }; _ = func() { switch a@v1.(type) { } }",
		"_!402(); _ = _!402; _ = _!402._; _ = x!402._; _!402++; _!402 += 1; var _ _!402; _ = (_!402)",
		"_ = func(_ int) int { return _!402 }",
	)
	// The universe's names are used, too, and mean nothing where something else has them.
	expect(t, "package p; var true#v1 = false; var x = true@v1; func f(int#v2 string) { _ = int@v2 }")
	expect(t, "package p; var x = float64!402; var y uintptr!402; var z = complex!402(close!402, Any!402, INT!402)")
	expect(t, "package p; var x = p!402.x; var y = q!402.x")
}

// TestKeys: P12.6, a name ahead of a colon that means something is used; else it is passed over.
func TestKeys(t *testing.T) {
	expectBody(t,
		"a#v1 := 1; _ = T!402{a@v1: a@v1, b: b!402, _: 1, (b!402): 1, c!402.d: 1, -b!402: 1, {b: {c: d!402}}: {_: 1}}",
		"a#v1 := 1; _ = []int{a@v1: 2}",
		"a!403 := 1; _ = T!402{b: 2}; { a#v2 := 1; _ = T!402{a@v2: 3} }",
		"_ = map[int]int{x: 1, int: 2, nil: 3}",
		"b#v1 := b!402[a!402:a!402]; b@v1()",
	)
	expect(t, `package p; import $p1q "q"; type T#t1 struct { q, r, s int }; var x = T@t1{q@p1: 1, r: 2, s@c1: 3}; const s#c1 = 1`)
	expect(t, `package p; import «q "q"»!404; type T#t1 struct { q int }; var x = T@t1{q2: 1}`)
}

// TestAssigned: P12.7, a name that is assigned to has its bind, but is not used by that.
func TestAssigned(t *testing.T) {
	expectBody(t,
		"var x#v1!403, y#v2!403 int; x@v1, y@v2 = 1, 2; _, _ = 1, 2",
		"var x#v1 int; (x@v1) = 1",
		"var x#v1 int; x@v1[1] = 1; var y#v2 int; y@v2.z = 1; var z#v3 int; *z@v3 = 1",
		"var x#v1!403 int; x@v1 = func() { x@v1 = 1 }",
		"var x#v1 int; x@v1 = x@v1",
		"x!402 = 1; _!402.x = 1; _ = x!402; (_!402) = 1; y!402, z!402[_!402] = 1",
		"var x#v1!403, y#v2!403 int; for x@v1, y@v2 = range 1 { }; for _, x@v1 = range 1 { }; for _ = range 1 { }",
		"var x#v1 int; for x@v1.y, (x@v1) = range z!402 { }; for z!402, _!402.x = range x@v1 { }",
		"const c#c1 = 1; c@c1 = 2; type T#t1 int; T@t1 = 1; nil = 1",
	)
	expect(t, `package p; func f(x#v1 int) { x@v1 = 1; g@f1 = 2; h@v2 = 3 }; func g#f1() {}; var h#v2 int`)
	expect(t, `package p; import «$p1q "q"»!404; func f() { q@p1 = 1 }`)
}

// TestDefinitions: P12.7, which names a definition declares, and that it must declare one.
func TestDefinitions(t *testing.T) {
	expectBody(t,
		"x#v1!403 := 1; x@v1, y#v2 := 1, 2; { x#v3 := y@v2; x@v3() }",
		"x#v1!403 := 1; «x@v1»!401 := 2; «x@v1, _»!401 := 2, 3",
		"x#v1!403, x!401, _, x!401, _ := 1, 2, 3, 4, 5",
		"«_»!401 := 1; «_, _»!401 := 1, 2; _, x#v1 := 1, 2; x@v1()",
		"x#v1!403, y#v2!403 := 1, 2; «x@v1, y@v2, x!401»!401 := 1, 2, 3",
		"const c#c1 = 1; c@c1, d#v2 := 1, 2; type T#t3 int; «T@t3»!401 := d@v2",
		"x#v1!403 := 1; if x#v2!403 := 1; 1 { x#v3!403 := 1; «x@v3»!401 := 2 }",
		"if x#v1 := 1; x@v1 { } else if x#v2 := 1; x@v2 { }",
		"for x#v1!403, x!401 := range 1 { }; for _, _ := range 1 { }; for _, x#v2 := range 1 { x@v2() }",
		"x#v1 := x!402; x@v1()",
		"nil#v1, int#v2 := int, nil; nil@v1(int@v2)",
	)
	expect(t, "package p; var x int; func f(y#v1 int) (z#v2 int) { x#v3, y@v1, z@v2 := 1, 2, 3; x@v3(); «y@v1, z@v2»!401 := 1, 2 }")
	expect(t, "package p; func f[Q#t2 any]() { «Q@t2»!401 := 1 }")
	expect(t, `package p; import «q "q"»!404; func f#f1() { q#v1, f#v2 := f@f1, 1; q@v1(f@v2) }`)
}

// TestUnused: P12.8, which variables must be used, and what uses them.
func TestUnused(t *testing.T) {
	expectBody(t,
		"var x!403 int; var y!403, z#v1 = 1, 2; { z@v1() }",
		"var ( x!403 int; y!403 = 1 ); const c = 1; type T int",
		"x!403 := 1; for y!403, z!403 := range 1 { }; if a!403 := 1; 1 { }; switch b!403 := 1; { }; for c!403 := 1; ; { }",
		"switch x!403 := y!402.(type) { }; switch x!403 := y!402.(type) { case int: default: }; switch _ := y!402.(type) { case int: _ = _!402 }",
		"switch x#v1 := y!402.(type) { case int: case string: x@v1() }; switch x!403 := y!402.(type) { case int: { x!403 := 1 } }",
		"switch x#v1!403 := y!402.(type) { case int: x@v1 = 1 }; switch x#v2 := y!402.(type) { case int: x@v2 = 1; default: _ = func() { x@v2() } }",
		"var x#v1 int; _ = func() { _ = func() { x@v1() } }; var y!403 = func() { x!403 := 1 }",
		"x!403 := 1; { x#v1 := 1; x@v1() }; { x!403 := 1 }",
		"var x!403 int; var x!401 int; y#v1 := 1; var y!401 int; y@v1()",
		"var _ int; _, x!403 := 1, 2",
	)
	expect(t, "package p; var x int; const c = 1; type T int; func f(a, b int, c func(x int)) (d int) { }; var g = func(a int) (b int) { var x!403 int }")
	expect(t, "package p; func f[P any]() { type T[Q any] int }")
}

// TestUnusedImports: P12.8, an import must be used in its own file.
func TestUnusedImports(t *testing.T) {
	expect(t, `package p; import «q "q"»!404`, `package p; import $p1q "q"; var x = q@p1.x`, `package p; var y = q!402.y`)
	expect(t, `package p; import $p1q "q"; type T#t1 struct { q@p1.T }; func (T@t1) m(q#v1 int) { q@v1() }`)
	expect(t, `package p; import «q "q"»!404; func f(q#v1 int) { q@v1.x() }; type T struct { q int }; var x = y@v2.q; var y#v2 int`)
	expect(t, `package p; import (« "q"»!404; _ "r"; «s "r"»!404;« "a/t"»!404 )`)
	expect(t, `package p; import $p1q "q"; func f() { _ = func() { var x!403 q@p1.T } }`)
}

// TestLabels: P12.9, the labels of a function or a literal.
func TestLabels(t *testing.T) {
	expectBody(t,
		"L: for { break L }; M: for range 1 { continue M }; N: switch { case 1: break N }; O: switch 1.(type) { case int: break O }",
		"L!406: for { break; continue }; M!406: switch { }",
		"L: for { for { switch { case 1: { if 1 { continue L } } } } }",
		"L!406: for { }; for { break L!405 }; { continue L!405 }",
		"break L!405; L!406: for { }",
		"L: for { M: for { N!406: for { break L; continue M; break O!405 } } }",
		// A continue means a switch's label, but can't go on with it.
		"L: switch { case 1: continue L!405 }; M: for { N: switch 1.(type) { case int: continue N!405; break N; continue M } }",
		// Of labels of one name the innermost one counts.
		"L!406: for { L!401: for { break L } }",
		"L!406: for { L!401: switch { case 1: for { continue L!405 } } }",
		"L: for { L!401!406: switch { }; continue L }",
		"L!406: for { }; L!401!406: for { }; L!401: for { break L }",
		"L: for { L!401: for { break L }; break L }",
		// Literals have labels of their own.
		"L: for { _ = func() { break L!405; L: for { continue L } }; break L }",
		"L!406: for { _ = func() { continue L!405 }; M: for { _ = func() { M!406: for { } }; break M } }",
		"L!406: for { x#v1 := func() { L: for { break L } }; x@v1() }; _ = func() { L: for { break L } }",
		// _ is no label.
		"_: for { break _!405 }; _: for { _: switch { case 1: continue _!405 } }",
		// Labels are no names of scopes.
		"L#v1 := 1; L: for { break L }; L@v1(); M: for M!403 := range 1 { continue M }",
		"x!403 := 1; x: for { break x }; y!406: for { y!402() }",
	)
	expect(t, "package p; func f() { L: for { break L } }; func g() { L!406: for { }; break M!405 }; var x = func() { L: for { continue L } }; func L#f1() { L@f1() }")
}
