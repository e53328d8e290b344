package expr_test

import (
	"strings"
	"testing"

	"scholiast/api"
	"scholiast/expr"
)

// around is a middle with texts ahead of it and behind it, so many times each.
func around(n int, ahead, middle, behind string) string {
	return strings.Repeat(ahead, n) + middle + strings.Repeat(behind, n)
}

// TestDepth: P5.3, P5.4, P5.8, P5.9: as deep as may be; and deeper by one, with an @ at the token at which it fails: by levels at what would be the deepest one, by heights behind what would be the highest one.
func TestDepth(t *testing.T) {
	typ, params, typeParams := (*expr.Reader).Type, (*expr.Reader).Params, (*expr.Reader).TParams
	high := around(24, "func(", "***a", ")") // of the height 100
	for _, c := range []struct {
		read        procedure
		deep, wrong string
	}{
		{inside, around(99, "(", "a", ")"), around(100, "(", "@a", ")")},
		{inside, around(99, "- ", "a", ""), around(100, "- ", "@a", "")},
		{inside, around(99, "*", "a", ""), around(100, "*", "@a", "")},
		{inside, around(49, "!(", "a", ")"), around(49, "!(", "!(@a)", ")")},
		{inside, around(98, "(", "-a", ")"), around(99, "(", "-@a", ")")},
		{inside, around(99, "a(", "b", ")"), around(100, "a(", "@b", ")")},
		{inside, around(99, "a[", "b", "]"), around(100, "a[", "@b", "]")},
		{inside, around(99, "a[b:", "c", "]"), around(99, "a[b:", "a[@b:c]", "]")},
		{inside, around(99, "T{", "{}", "}"), around(100, "T{", "@{}", "}")},
		{inside, "T" + around(100, "{", "", "}"), "T" + around(100, "{", "@{}", "}")},
		{inside, around(49, "T{a:", "b", "}"), around(50, "T{a:", "b", "}") + "@"},
		{inside, around(49, "T{a:", "b", "}") + " + c", around(50, "T{a:", "b", "}") + " @+ c"},
		{inside, around(49, "T{a:", "b", "}"), "T{a:" + around(50, "T{a:", "b", "}") + "@}"},
		{inside, around(49, "T{a:", "b", "}"), "T{a: -" + around(49, "T{a:", "b", "}") + "@, c}"},
		{inside, around(98, "", "a.b", ".c"), around(99, "", "a.b", ".c") + "@"},
		{inside, around(99, "", "a", "()"), around(100, "", "a", "()") + "@.b"},
		{inside, "f(" + around(98, "", "a", "[b]") + ")", "f(" + around(100, "", "a", "[b]") + "@)"},
		{inside, around(99, "", "a", "[:]"), around(100, "", "a", "[:]") + "@"},
		{inside, around(99, "", "a", ".(b)"), around(100, "", "a", ".(b)") + "@"},
		{inside, around(99, "", "a", " + a"), around(100, "", "a", " + a") + " @+ a"},
		{inside, around(99, "", "a", " || b"), around(100, "", "a", " || b") + " @|| c"},
		{inside, around(98, "", "a * b", " - c"), around(99, "", "a * b", " - c") + " @- d"},
		{inside, around(97, "", "func() {}", "()"), around(98, "", "func() {}", "()") + "@"},
		{inside, around(98, "[]", "a", ""), around(99, "[]", "@a", "")},
		{inside, around(98, "map[", "a", "]b"), around(99, "map[", "@a", "]b")},
		{typ, around(99, "[]", "a", ""), around(100, "[]", "@a", "")},
		{typ, around(99, "*", "a", ""), around(100, "*", "@a", "")},
		{typ, around(99, "(", "a", ")"), around(100, "(", "@a", ")")},
		{typ, around(99, "a[", "b", "]"), around(100, "a[", "@b", "]")},
		{typ, around(99, "[n]", "a", ""), around(99, "[n]", "[@n]a", "")},
		{typ, around(99, "map[a]", "b", ""), around(99, "map[a]", "map[@a]b", "")},
		{typ, around(49, "func() ", "a", ""), around(50, "func() ", "a", "") + "@"},
		{typ, around(49, "struct{a ", "b", "}"), around(50, "struct{a ", "b", "}") + "@"},
		{typ, around(33, "struct{a *", "b", "}"), "struct{a *" + around(33, "struct{a *", "b", "}") + "@}"},
		{typ, around(47, "*", around(26, "struct{a ", "b", "}"), ""), around(48, "*", around(26, "struct{a ", "b", "}"), "") + "@"},
		{typ, around(49, "interface{", "a", "}"), around(50, "interface{", "a", "}") + "@"},
		{typ, around(33, "interface{~", "a", "}"), around(33, "interface{~", "[]a", "}") + "@"},
		{typ, around(24, "func(", "a", ")"), around(25, "func(", "a", ")") + "@"},
		{typ, around(24, "func(", "*a", ")"), around(25, "func(", "**a", ")") + "@"},
		{typ, high, "func(" + high + "@)"},
		{typ, high, "func(" + high + ", b@)"},
		{typ, high, "func(x " + high + ", y b@)"},
		{typ, high, "func(x b, y " + high + ",@)"},
		{typ, high, "interface { " + high + "@; a }"},
		{params, "(" + around(23, "func(", "***a", ")") + ")", "(" + high + "@)"},
		{typeParams, "[P a, Q b]", "[P " + high + "@, Q b]"},
		{typeParams, "[P a | b]", "[P " + high + " | b@, Q b]"},
	} {
		if got, d := spell(t, c.deep, c.read); got == "" || d != (api.Diag{}) {
			t.Errorf("%q: %v", c.deep, d)
		}
		expectFails(t, c.read, api.DDepth, c.wrong)
	}
}

// TestWide: P5.4, P5.8, P5.9: what stands side by side, however often, is not deep.
func TestWide(t *testing.T) {
	for _, c := range []struct {
		read         procedure
		ahead, again string
		behind       string
	}{
		{inside, "f(", "a, ", ")"},
		{inside, "f(", "-a, *a, ", ")"},
		{inside, "f(", "(a), [](b), ", ")"},
		{inside, "T{", "{}, {a}, ", "}"},
		{inside, "T{", "{}: {a: b}, ", "}"},
		{inside, "a[", "[]b, ", "]"},
		{(*expr.Reader).Type, "a[", "b, *c, ", "]"},
		{(*expr.Reader).Type, "struct{", "a []b; *c; ", "}"},
		{(*expr.Reader).Type, "interface{", "a() b; ~c | d; ", "}"},
		{(*expr.Reader).Params, "(", "a, b *c, d ...e, ", ")"},
		{(*expr.Reader).TParams, "[", "a, b c, d ~e | f, ", "]"},
	} {
		s := c.ahead + strings.Repeat(c.again, 300) + c.behind
		if got, d := spell(t, s, c.read); got == "" || d != (api.Diag{}) {
			t.Errorf("300 of %q: %v", c.again, d)
		}
	}
}

// at reads a part where so many levels are open already.
func at(levels int, read procedure) procedure {
	return func(r *expr.Reader) {
		for range levels {
			r.Down()
		}
		read(r)
	}
}

// TestLastLevel: P5.8 to P5.12, where just one level is left: what asks for no other one is read, what does fails at its token, and what fails by its tokens does so by them.
func TestLastLevel(t *testing.T) {
	x, typ, params, typeParams := at(99, inside), at(99, (*expr.Reader).Type), at(99, (*expr.Reader).Params), at(99, (*expr.Reader).TParams)
	for _, s := range []string{"a", "1", "a.b", "a[:]", "a()", "a{}", "a + b * c - d", "func() {}", "func() ()", "a.(type)"} {
		if got, d := spell(t, s, x); got == "" || d != (api.Diag{}) {
			t.Errorf("%q: %v", s, d)
		}
	}
	expectFails(t, x, api.DDepth, "-@a", "*@a", "(@a)", "a[@b]", "a[:@b]", "a(@b)", "a(@", "a{@b}", "a{@{}}", "a.(@b)", "@[]a", "@struct{}", "func(@a)", "func() @a", "func(a @b)", "func(...@a)", "a + -@b", "a[:@,]", "a[:@", "func(@")
	expectFails(t, x, api.DSyntax, "@", "a[:@:]", "a.@", "a.(type@", "func() {@", "func@", "a +@", "a@)")
	for _, s := range []string{"a", "a.b", "struct{}", "struct{a; *b.c}", "interface{}", "interface{a()}", "func()", "func() ()"} {
		if got, d := spell(t, s, typ); got == "" || d != (api.Diag{}) {
			t.Errorf("%q: %v", s, d)
		}
	}
	expectFails(t, typ, api.DDepth, "*@a", "(@a)", "[]@a", "[@n]a", "[...]@a", "map[@a]b", "a[@b]", "func(@a)", "func() @a", "struct{a @b}", "interface{@a}", "interface{~@a}", "interface{a(@b)}")
	expectFails(t, typ, api.DSyntax, "@", "@1", "[...@", "map@", "a.@", "struct{a,@", "struct{*@", "func() @1")
	expectFails(t, params, api.DDepth, "(*@a)", "(a, b []@c)", "(... *@a)")
	expectFails(t, typeParams, api.DDepth, "[a *@b]", "[a ~*@b]", "[a b | []@c]")
	for _, read := range []procedure{inside, (*expr.Reader).Type} {
		expectFails(t, at(100, read), api.DDepth, "@a", "@", "@)")
	}
	if got, d := spell(t, "()", at(100, (*expr.Reader).Sig)); got == "" || d != (api.Diag{}) {
		t.Errorf("() asks for no level: %v", d)
	}
}
