package stmt_test

import (
	"strings"
	"testing"

	"scholiast/api"
	"scholiast/probe"
	"scholiast/stmt"
)

// TestDepth: P6.3 to P6.8, as deep as may be, by levels or by heights; and deeper by one.
func TestDepth(t *testing.T) {
	block, statement := stmt.Block, stmt.Statement
	for _, c := range []struct {
		read        procedure
		deep, wrong string
	}{
		{block, probe.Around(100, "{", "", "}"), probe.Around(101, "{", "", "}") + "@"},
		{block, probe.Around(100, "{", "", "}"), probe.Around(101, "{", "@{}", "}")},
		{block, probe.Around(99, "{", ";", "}"), probe.Around(100, "{", ";", "}") + "@"},
		{block, probe.Around(98, "{", "a", "}"), probe.Around(99, "{", "a", "}") + "@"},
		{block, probe.Around(99, "{", "break", "}"), probe.Around(99, "{", "{ break", "}") + "}@"},
		{block, probe.Around(98, "{", "a", "}"), probe.Around(100, "{", "@a", "}")},
		{block, probe.Around(100, "{", "", "}"), probe.Around(101, "{", "@;", "}")},
		{block, probe.Around(100, "{", "", "}"), probe.Around(101, "{", "@return", "}")},
		{statement, probe.Around(98, "if a {} else ", "if a {}", ""), probe.Around(99, "if a {} else ", "if @a {}", "")},
		{statement, probe.Around(98, "if a {} else ", "if ; a {}", ""), probe.Around(99, "if a {} else ", "if ; @a {}", "")},
		{statement, probe.Around(97, "if a {} else ", "if a.b {}", ""), probe.Around(98, "if a {} else ", "if a.b.c {}", "") + "@"},
		{statement, probe.Around(49, "if a {", "b", "}"), probe.Around(49, "if a {", "{ b }", "}") + "@"},
		{statement, probe.Around(49, "for {", "a", "}"), probe.Around(49, "for {", "a.b.c", "}") + "@"},
		{statement, probe.Around(48, "for a = range b {", "c", "}"), probe.Around(49, "for a = range b {", "c.d.e", "}") + "@"},
		{statement, probe.Around(49, "switch {case a: ", "", "}"), "switch {case a: " + probe.Around(49, "switch {case a: ", "b", "}") + "@}"},
		{statement, probe.Around(49, "switch {case a: ", "b", "}"), probe.Around(49, "switch {case a: ", "b.c", "}") + "@"},
		{statement, probe.Around(33, "a: for {", "", "}"), probe.Around(34, "a: for {", "", "}") + "@"},
		{statement, "a := " + probe.Around(97, "- ", "b", ""), "a := " + probe.Around(99, "- ", "@b", "")},
		{statement, "a = " + probe.Around(97, "", "b", "()"), "a = " + probe.Around(98, "", "b", "()") + "@"},
		{statement, probe.Around(97, "", "b", "()") + " = a", probe.Around(99, "", "b", "()") + " @= a"},
		{statement, probe.Around(97, "", "b", "()") + " = a", probe.Around(98, "", "b", "()") + " = a@"},
		{statement, probe.Around(97, "", "b", "()") + " += a", probe.Around(99, "", "b", "()") + " @+= a"},
		{statement, probe.Around(98, "", "b", "()") + "++", probe.Around(99, "", "b", "()") + "++@"},
		{statement, probe.Around(98, "", "b", "()"), probe.Around(99, "", "b", "()") + "@"},
		{statement, "return " + probe.Around(97, "", "b", "()"), "return " + probe.Around(98, "", "b", "()") + "@"},
		{statement, "defer " + probe.Around(98, "- ", "b", ""), "defer " + probe.Around(99, "- ", "@b", "")},
		{statement, "var a " + probe.Around(97, "*", "b", ""), "var a " + probe.Around(99, "*", "@b", "")},
		{stmt.Var, "var a " + probe.Around(97, "*", "b", ""), "var a " + probe.Around(98, "*", "b", "") + "@"},
		{stmt.Var, "var a = " + probe.Around(96, "", "b", "()"), "var a = " + probe.Around(97, "", "b", "()") + "@"},
		{stmt.Const, "const a = " + probe.Around(96, "", "b", "()"), "const (a = " + probe.Around(97, "", "b", "()") + ")@"},
		{stmt.Const, "const a = " + probe.Around(96, "", "b", "()"), "const (a = " + probe.Around(98, "", "b", "()") + "@; b)"},
		{stmt.Type, "type a " + probe.Around(97, "[]", "b", ""), "type (a " + probe.Around(98, "[]", "b", "") + ")@"},
	} {
		probe.ExpectHolds(t, c.read, c.deep)
		probe.ExpectFails(t, c.read, api.DDepth, c.wrong)
	}
}

// TestHeads: P6.5 to P6.7, where nodes ahead of it make a statement too high, that is told behind it.
func TestHeads(t *testing.T) {
	high := probe.Around(99, "", "b", "()") // of the height 100
	for _, c := range []string{"if % {}@", "if %@; a {}", "if a; % {}@", "for % {}@", "for ; %; {}@", "for ; ; % @{}", "for range % {}@", "for % @= range a {}", "for a = range % {}@", "switch % {}@", "switch %@; {}", "switch a; % {}@", "switch { case %@: }", "a: for % {}@"} {
		probe.ExpectFails(t, stmt.Statement, api.DDepth, strings.ReplaceAll(c, "%", high))
	}
}

// TestLastLevel: P6.3 to P6.8, where just one level is left, or none: what asks for no other one is read, what does fails at its token, and what fails by its tokens does so by them.
func TestLastLevel(t *testing.T) {
	one, none := probe.At(99, stmt.Statement), probe.At(100, stmt.Statement)
	probe.ExpectHolds(t, one, "{}", "return", "break", "continue a", "fallthrough", "for {}", "switch {}", "switch ; {}", "switch { default: }", "a: for {}", "const a", "const ()", "const (a)", "var ()", "type ()")
	probe.ExpectFails(t, one, api.DDepth, "@a", "@(", "@a, b = c", "a := @b", "{ @a }", "{ @; }", "return @a", "return @)", "defer @a", "defer@", "if @a {}", "if ; @a {}", "if a := @b; c {}", "for @a {}", "for ; ; @a {}", "for ;@", "for ; ;@", "for range @a {}", "for a := range @b {}", "for @a = range b {}", "switch @a {}", "switch a := @b.(type) {}", "switch { case @a: }", "switch { default: @a }", "var a @b", "var a = @b", "const a = @b", "const a @b = c", "type a @b", "type a[b @c] d", "@else")
	probe.ExpectFails(t, one, api.DSyntax, "for ; ; @a := b {}", "switch {@", "switch { default @}", "a: @b", "break @1", "const @1", "var@", "type@", "{@", "const (a@", "{} @;")
	probe.ExpectFails(t, none, api.DDepth, "@a", "@", "@;", "@}", "@{}", "@return", "@for {}", "@a: for {}", "@const a", "@case")
	for _, c := range []struct {
		read procedure
		text string
	}{{stmt.Block, "{}"}, {stmt.Const, "const a"}, {stmt.Const, "const ()"}, {stmt.Var, "var ()"}, {stmt.Type, "type ()"}} {
		probe.ExpectHolds(t, probe.At(100, c.read), c.text) // it asks for no level
	}
}

// TestLevels: P6.4 and P6.5, what was opened is closed again: side by side, however often, nothing is deep.
func TestLevels(t *testing.T) {
	for _, s := range []string{";", "a;", "{};", "return;", "a := b;", "if a {} else if b {} else {};", "for {};", "for a {};", "for range a {};", "switch {};", "switch a.(type) { case b: c; };", "a: for {};", "const a;", "var a b;", "type a b;", "defer a;", "break;"} {
		probe.ExpectHolds(t, stmt.Block, "{"+strings.Repeat(s, 300)+"}")
	}
}
