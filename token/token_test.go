package token_test

import (
	"math"
	"slices"
	"strings"
	"testing"

	"scholiast/api"
	"scholiast/probe"
	"scholiast/token"
)

// spelt is a kind and its text.
type spelt struct {
	kind int
	text string
}

var signs = []spelt{
	{api.TSemi, ";"},
	{api.TAdd, "+"}, {api.TSub, "-"}, {api.TMul, "*"}, {api.TQuo, "/"}, {api.TRem, "%"}, {api.TAnd, "&"},
	{api.TOr, "|"}, {api.TXor, "^"}, {api.TShl, "<<"}, {api.TShr, ">>"}, {api.TAndNot, "&^"},
	{api.TAddTo, "+="}, {api.TSubTo, "-="}, {api.TMulTo, "*="}, {api.TQuoTo, "/="}, {api.TRemTo, "%="}, {api.TAndTo, "&="},
	{api.TOrTo, "|="}, {api.TXorTo, "^="}, {api.TShlTo, "<<="}, {api.TShrTo, ">>="}, {api.TNotTo, "&^="},
	{api.TLand, "&&"}, {api.TLor, "||"}, {api.TInc, "++"}, {api.TDec, "--"}, {api.TEql, "=="}, {api.TLss, "<"},
	{api.TGtr, ">"}, {api.TAssign, "="}, {api.TNot, "!"}, {api.TTilde, "~"}, {api.TNeq, "!="}, {api.TLeq, "<="},
	{api.TGeq, ">="}, {api.TDefine, ":="}, {api.TDots, "..."}, {api.TLparen, "("}, {api.TLbrack, "["}, {api.TLbrace, "{"},
	{api.TComma, ","}, {api.TPeriod, "."}, {api.TRparen, ")"}, {api.TRbrack, "]"}, {api.TRbrace, "}"}, {api.TColon, ":"},
}

var keywords = []spelt{
	{api.TBreak, "break"}, {api.TCase, "case"}, {api.TConst, "const"}, {api.TContinue, "continue"},
	{api.TDefault, "default"}, {api.TDefer, "defer"}, {api.TElse, "else"}, {api.TFallthrough, "fallthrough"},
	{api.TFor, "for"}, {api.TFunc, "func"}, {api.TIf, "if"}, {api.TImport, "import"}, {api.TInterface, "interface"},
	{api.TMap, "map"}, {api.TPackage, "package"}, {api.TRange, "range"}, {api.TReturn, "return"},
	{api.TStruct, "struct"}, {api.TSwitch, "switch"}, {api.TType, "type"}, {api.TVar, "var"},
}

var words = []spelt{
	{api.TSpace, "space"}, {api.TFeed, "feed"}, {api.TComment, "comment"}, {api.TBlock, "block"}, {api.TBad, "bad"},
	{api.TIdent, "name"}, {api.TInt, "int"}, {api.TRune, "rune"}, {api.TString, "string"}, {api.TRaw, "raw"}, {api.TAuto, "auto"},
}

// anyKinds are all kinds of tokens and nodes, and numbers that are no kind.
func anyKinds() []int {
	l := []int{math.MinInt, math.MinInt + 1, math.MinInt32, math.MaxInt32, math.MaxInt - 1, math.MaxInt, 256 + api.TAdd, 1<<32 + api.TAdd}
	for kind := -100; kind <= 400; kind++ {
		l = append(l, kind)
	}
	return l
}

// kindsOf finds the kinds of signs and keywords.
func kindsOf(texts string) []int {
	var l []int
	for _, s := range strings.Fields(texts) {
		for _, e := range slices.Concat(signs, keywords) {
			if e.text == s {
				l = append(l, e.kind)
			}
		}
	}
	return l
}

// TestName: P2.1, at all kinds and at numbers that are none.
func TestName(t *testing.T) {
	all := slices.Concat(signs, keywords, words)
	if len(signs) != 47 || len(keywords) != 21 || len(words) != 11 {
		t.Fatal("kinds are missing from the test's lists")
	}
	for _, kind := range anyKinds() {
		want := ""
		if i := slices.IndexFunc(all, func(e spelt) bool { return e.kind == kind }); i >= 0 {
			want = all[i].text
		}
		if got := token.Name(kind); got != want {
			t.Errorf("Name(%d): %q, want %q", kind, got, want)
		}
	}
}

// TestKeyword: P2.1, at the keywords and at texts that are nearly keywords.
func TestKeyword(t *testing.T) {
	for _, k := range keywords {
		if got := token.Keyword(k.text); got != k.kind {
			t.Errorf("Keyword(%q): %d, want %d", k.text, got, k.kind)
		}
		for _, s := range []string{k.text + " ", " " + k.text, k.text + "x", k.text[1:], k.text[:len(k.text)-1], strings.ToUpper(k.text), strings.ToUpper(k.text[:1]) + k.text[1:], k.text + "\x00"} {
			if got := token.Keyword(s); got != 0 {
				t.Errorf("Keyword(%q): %d", s, got)
			}
		}
	}
	for _, s := range []string{"", "Func", "goto", "go", "chan", "select", "nil", "any", "_", "fünc", "\xff", strings.Repeat("func", 1000)} {
		if got := token.Keyword(s); got != 0 {
			t.Errorf("Keyword(%q): %d", s, got)
		}
	}
}

// longest is P2.2, worked out from the test's list.
func longest(s string) (int, int) {
	var found spelt
	for _, e := range signs {
		if strings.HasPrefix(s, e.text) && len(e.text) > len(found.text) {
			found = e
		}
	}
	return found.kind, len(found.text)
}

// TestOperator: P2.2, the examples and texts that begin with no sign.
func TestOperator(t *testing.T) {
	for _, c := range []struct {
		text        string
		kind, width int
	}{
		{"&^=x", api.TNotTo, 3}, {"&^x", api.TAndNot, 2}, {"&&=", api.TLand, 2}, {"..", api.TPeriod, 1}, {"x", 0, 0}, {"", 0, 0},
		{"....", api.TDots, 3}, {"<<=", api.TShlTo, 3}, {"<<<", api.TShl, 2}, {"<=<", api.TLeq, 2}, {"===", api.TEql, 2}, {"+++", api.TInc, 2},
		{"::=", api.TColon, 1}, {":=", api.TDefine, 2}, {"&&^=", api.TLand, 2}, {"||=", api.TLor, 2}, {"!!=", api.TNot, 1}, {"~=", api.TTilde, 1},
		{";;", api.TSemi, 1}, {";=", api.TSemi, 1}, {"<-", api.TLss, 1}, {"^&", api.TXor, 1}, {"- -", api.TSub, 1},
		{" +", 0, 0}, {"\n", 0, 0}, {"x+", 0, 0}, {"_", 0, 0}, {"0", 0, 0}, {"#", 0, 0}, {"\x00+", 0, 0}, {"\xff", 0, 0}, {"\"", 0, 0}, {"'", 0, 0}, {"`", 0, 0},
		{"\\", 0, 0}, {"@", 0, 0}, {"$", 0, 0}, {"?", 0, 0}, {"\u2026", 0, 0}, {"func", 0, 0},
		{"+" + strings.Repeat("x", 1<<20), api.TAdd, 1},
	} {
		if kind, width := token.Operator(c.text); kind != c.kind || width != c.width {
			t.Errorf("Operator(%.9q): %d, %d, want %d, %d", c.text, kind, width, c.kind, c.width)
		}
	}
}

// TestOperatorAll: P2.2, at all texts of up to four of the signs' bytes.
func TestOperatorAll(t *testing.T) {
	probe.Every(";+-*/%&|^<>=!~([{,.)]}:x", 4, func(s string) {
		wantKind, wantWidth := longest(s)
		if kind, width := token.Operator(s); kind != wantKind || width != wantWidth {
			t.Fatalf("Operator(%q): %d, %d, want %d, %d", s, kind, width, wantKind, wantWidth)
		}
	})
}

// expectKinds holds a yes-or-no answer against the kinds of which it is yes.
func expectKinds(t *testing.T, name string, f func(int) bool, yes []int) {
	t.Helper()
	for _, kind := range anyKinds() {
		if got, want := f(kind), slices.Contains(yes, kind); got != want {
			t.Errorf("%s(%d): %v", name, kind, got)
		}
	}
}

// TestTriviaAndEnds: P2.3, at all kinds and at numbers that are none.
func TestTriviaAndEnds(t *testing.T) {
	expectKinds(t, "Trivia", token.Trivia, []int{api.TSpace, api.TFeed, api.TComment, api.TBlock, api.TBad})
	ends := append(kindsOf("break continue fallthrough return ++ -- ) ] }"), api.TIdent, api.TInt, api.TRune, api.TString, api.TRaw)
	if len(ends) != 14 {
		t.Fatal(ends)
	}
	expectKinds(t, "Ends", token.Ends, ends)
}

// TestPrecedence: P2.4, at all kinds and at numbers that are none.
func TestPrecedence(t *testing.T) {
	strength := map[int]int{}
	for i, row := range []string{"||", "&&", "== != < <= > >=", "+ - | ^", "* / % << >> & &^"} {
		for _, kind := range kindsOf(row) {
			strength[kind] = i + 1
		}
	}
	if len(strength) != 19 {
		t.Fatal(strength)
	}
	for _, kind := range anyKinds() {
		if got := token.Precedence(kind); got != strength[kind] {
			t.Errorf("Precedence(%d): %d, want %d", kind, got, strength[kind])
		}
	}
}

// TestPlain: P2.4, at all kinds and at numbers that are none.
func TestPlain(t *testing.T) {
	plain := map[int]int{}
	with := kindsOf("+= -= *= /= %= &= |= ^= <<= >>= &^=")
	for i, kind := range kindsOf("+ - * / % & | ^ << >> &^") {
		plain[with[i]] = kind
	}
	if len(plain) != 11 {
		t.Fatal(plain)
	}
	for _, kind := range anyKinds() {
		if got := token.Plain(kind); got != plain[kind] {
			t.Errorf("Plain(%d): %d, want %d", kind, got, plain[kind])
		}
	}
}

// TestNamesTellKinds: P2.9, names of signs and keywords lead back to their kinds, and no text is of both.
func TestNamesTellKinds(t *testing.T) {
	for _, e := range signs {
		name := token.Name(e.kind)
		if kind, width := token.Operator(name); kind != e.kind || width != len(name) {
			t.Errorf("Operator(%q): %d, %d", name, kind, width)
		}
		if kind := token.Keyword(name); kind != 0 {
			t.Errorf("the sign %q is the keyword %d", name, kind)
		}
	}
	for _, e := range keywords {
		name := token.Name(e.kind)
		if kind := token.Keyword(name); kind != e.kind {
			t.Errorf("Keyword(%q): %d", name, kind)
		}
		if kind, width := token.Operator(name); kind != 0 || width != 0 {
			t.Errorf("the keyword %q begins with the sign %d", name, kind)
		}
	}
	for _, e := range words {
		if kind := token.Keyword(token.Name(e.kind)); kind != 0 {
			t.Errorf("the word %q is the keyword %d", e.text, kind)
		}
	}
}
