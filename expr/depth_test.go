package expr_test

import (
	"strings"
	"testing"

	"scholiast/api"
	"scholiast/expr"
	"scholiast/probe"
)

// TestDepth: P5.3, P5.4, P5.8, P5.9: as deep as may be; and deeper by one, with an @ at the token at which it fails: by levels at what would be the deepest one, by heights behind what would be the highest one.
func TestDepth(t *testing.T) {
	typ, params, typeParams := (*expr.Reader).Type, (*expr.Reader).Params, (*expr.Reader).TParams
	high := probe.Around(24, "func(", "***a", ")") // of the height 100
	for _, c := range []struct {
		read        procedure
		deep, wrong string
	}{
		{inside, probe.Around(99, "(", "a", ")"), probe.Around(100, "(", "@a", ")")},
		{inside, probe.Around(99, "- ", "a", ""), probe.Around(100, "- ", "@a", "")},
		{inside, probe.Around(99, "*", "a", ""), probe.Around(100, "*", "@a", "")},
		{inside, probe.Around(49, "!(", "a", ")"), probe.Around(49, "!(", "!(@a)", ")")},
		{inside, probe.Around(98, "(", "-a", ")"), probe.Around(99, "(", "-@a", ")")},
		{inside, probe.Around(99, "a(", "b", ")"), probe.Around(100, "a(", "@b", ")")},
		{inside, probe.Around(99, "a[", "b", "]"), probe.Around(100, "a[", "@b", "]")},
		{inside, probe.Around(99, "a[b:", "c", "]"), probe.Around(99, "a[b:", "a[@b:c]", "]")},
		{inside, probe.Around(99, "T{", "{}", "}"), probe.Around(100, "T{", "@{}", "}")},
		{inside, "T" + probe.Around(100, "{", "", "}"), "T" + probe.Around(100, "{", "@{}", "}")},
		{inside, probe.Around(49, "T{a:", "b", "}"), probe.Around(50, "T{a:", "b", "}") + "@"},
		{inside, probe.Around(49, "T{a:", "b", "}") + " + c", probe.Around(50, "T{a:", "b", "}") + " @+ c"},
		{inside, probe.Around(49, "T{a:", "b", "}"), "T{a:" + probe.Around(50, "T{a:", "b", "}") + "@}"},
		{inside, probe.Around(49, "T{a:", "b", "}"), "T{a: -" + probe.Around(49, "T{a:", "b", "}") + "@, c}"},
		{inside, probe.Around(98, "", "a.b", ".c"), probe.Around(99, "", "a.b", ".c") + "@"},
		{inside, probe.Around(99, "", "a", "()"), probe.Around(100, "", "a", "()") + "@.b"},
		{inside, "f(" + probe.Around(98, "", "a", "[b]") + ")", "f(" + probe.Around(100, "", "a", "[b]") + "@)"},
		{inside, probe.Around(99, "", "a", "[:]"), probe.Around(100, "", "a", "[:]") + "@"},
		{inside, probe.Around(99, "", "a", ".(b)"), probe.Around(100, "", "a", ".(b)") + "@"},
		{inside, probe.Around(99, "", "a", " + a"), probe.Around(100, "", "a", " + a") + " @+ a"},
		{inside, probe.Around(99, "", "a", " || b"), probe.Around(100, "", "a", " || b") + " @|| c"},
		{inside, probe.Around(98, "", "a * b", " - c"), probe.Around(99, "", "a * b", " - c") + " @- d"},
		{inside, probe.Around(97, "", "func() {}", "()"), probe.Around(98, "", "func() {}", "()") + "@"},
		{inside, probe.Around(98, "[]", "a", ""), probe.Around(99, "[]", "@a", "")},
		{inside, probe.Around(98, "map[", "a", "]b"), probe.Around(99, "map[", "@a", "]b")},
		{typ, probe.Around(99, "[]", "a", ""), probe.Around(100, "[]", "@a", "")},
		{typ, probe.Around(99, "*", "a", ""), probe.Around(100, "*", "@a", "")},
		{typ, probe.Around(99, "(", "a", ")"), probe.Around(100, "(", "@a", ")")},
		{typ, probe.Around(99, "a[", "b", "]"), probe.Around(100, "a[", "@b", "]")},
		{typ, probe.Around(99, "[n]", "a", ""), probe.Around(99, "[n]", "[@n]a", "")},
		{typ, probe.Around(99, "map[a]", "b", ""), probe.Around(99, "map[a]", "map[@a]b", "")},
		{typ, probe.Around(49, "func() ", "a", ""), probe.Around(50, "func() ", "a", "") + "@"},
		{typ, probe.Around(49, "struct{a ", "b", "}"), probe.Around(50, "struct{a ", "b", "}") + "@"},
		{typ, probe.Around(33, "struct{a *", "b", "}"), "struct{a *" + probe.Around(33, "struct{a *", "b", "}") + "@}"},
		{typ, probe.Around(47, "*", probe.Around(26, "struct{a ", "b", "}"), ""), probe.Around(48, "*", probe.Around(26, "struct{a ", "b", "}"), "") + "@"},
		{typ, probe.Around(49, "interface{", "a", "}"), probe.Around(50, "interface{", "a", "}") + "@"},
		{typ, probe.Around(33, "interface{~", "a", "}"), probe.Around(33, "interface{~", "[]a", "}") + "@"},
		{typ, probe.Around(24, "func(", "a", ")"), probe.Around(25, "func(", "a", ")") + "@"},
		{typ, probe.Around(24, "func(", "*a", ")"), probe.Around(25, "func(", "**a", ")") + "@"},
		{typ, high, "func(" + high + "@)"},
		{typ, high, "func(" + high + ", b@)"},
		{typ, high, "func(x " + high + ", y b@)"},
		{typ, high, "func(x b, y " + high + ",@)"},
		{typ, high, "interface { " + high + "@; a }"},
		{params, "(" + probe.Around(23, "func(", "***a", ")") + ")", "(" + high + "@)"},
		{typeParams, "[P a, Q b]", "[P " + high + "@, Q b]"},
		{typeParams, "[P a | b]", "[P " + high + " | b@, Q b]"},
	} {
		probe.ExpectHolds(t, c.read, c.deep)
		probe.ExpectFails(t, c.read, api.DDepth, c.wrong)
	}
}

// TestWide: P5.4, P5.8, P5.9: what stands side by side, however often, is not deep.
func TestWide(t *testing.T) {
	for _, c := range []struct {
		read         procedure
		ahead, again string
		behind       string
	}{
		{inside, "f(", "a, ", ")"},
		{inside, "f(", "-a, *a, ", ")"},
		{inside, "f(", "(a), [](b), ", ")"},
		{inside, "T{", "{}, {a}, ", "}"},
		{inside, "T{", "{}: {a: b}, ", "}"},
		{inside, "a[", "[]b, ", "]"},
		{(*expr.Reader).Type, "a[", "b, *c, ", "]"},
		{(*expr.Reader).Type, "struct{", "a []b; *c; ", "}"},
		{(*expr.Reader).Type, "interface{", "a() b; ~c | d; ", "}"},
		{(*expr.Reader).Params, "(", "a, b *c, d ...e, ", ")"},
		{(*expr.Reader).TParams, "[", "a, b c, d ~e | f, ", "]"},
	} {
		probe.ExpectHolds(t, c.read, c.ahead+strings.Repeat(c.again, 300)+c.behind)
	}
}

// TestLastLevel: P5.8 to P5.12, where just one level is left: what asks for no other one is read, what does fails at its token, and what fails by its tokens does so by them.
func TestLastLevel(t *testing.T) {
	x, typ, params, typeParams := probe.At(99, inside), probe.At(99, (*expr.Reader).Type), probe.At(99, (*expr.Reader).Params), probe.At(99, (*expr.Reader).TParams)
	probe.ExpectHolds(t, x, "a", "1", "a.b", "a[:]", "a()", "a{}", "a + b * c - d", "func() {}", "func() ()", "a.(type)")
	probe.ExpectFails(t, x, api.DDepth, "-@a", "*@a", "(@a)", "a[@b]", "a[:@b]", "a(@b)", "a(@", "a{@b}", "a{@{}}", "a.(@b)", "@[]a", "@struct{}", "func(@a)", "func() @a", "func(a @b)", "func(...@a)", "a + -@b", "a[:@,]", "a[:@", "func(@")
	probe.ExpectFails(t, x, api.DSyntax, "@", "a[:@:]", "a.@", "a.(type@", "func() {@", "func@", "a +@", "a@)")
	probe.ExpectHolds(t, typ, "a", "a.b", "struct{}", "struct{a; *b.c}", "interface{}", "interface{a()}", "func()", "func() ()")
	probe.ExpectFails(t, typ, api.DDepth, "*@a", "(@a)", "[]@a", "[@n]a", "[...]@a", "map[@a]b", "a[@b]", "func(@a)", "func() @a", "struct{a @b}", "interface{@a}", "interface{~@a}", "interface{a(@b)}")
	probe.ExpectFails(t, typ, api.DSyntax, "@", "@1", "[...@", "map@", "a.@", "struct{a,@", "struct{*@", "func() @1")
	probe.ExpectFails(t, params, api.DDepth, "(*@a)", "(a, b []@c)", "(... *@a)")
	probe.ExpectFails(t, typeParams, api.DDepth, "[a *@b]", "[a ~*@b]", "[a b | []@c]")
	for _, read := range []procedure{inside, (*expr.Reader).Type} {
		probe.ExpectFails(t, probe.At(100, read), api.DDepth, "@a", "@", "@)")
	}
	probe.ExpectHolds(t, probe.At(100, (*expr.Reader).Sig), "()") // it asks for no level
}
