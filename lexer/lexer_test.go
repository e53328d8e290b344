package lexer_test

import (
	"go/scanner"
	gotoken "go/token"
	"math/rand"
	"regexp"
	"slices"
	"strings"
	"testing"
	"unicode/utf8"

	"scholiast/api"
	"scholiast/lexer"
	"scholiast/probe"
	"scholiast/text"
	"scholiast/token"
)

// pattern is one of the ways in which a token may begin, as the chapter numbers them; the first that fits holds.
type pattern struct {
	is         *regexp.Regexp
	kind, code int // the code is that of the whole token
}

var patterns = []pattern{
	{regexp.MustCompile(`^[ \t\r]+`), api.TSpace, 0},
	{regexp.MustCompile(`^\n`), api.TFeed, 0},
	{regexp.MustCompile(`^//[^\n]*`), api.TComment, 0},
	{regexp.MustCompile(`^/\*(?s:.*?)\*/`), api.TBlock, 0},
	{regexp.MustCompile(`^/\*(?s:.*)`), api.TBlock, api.DComment},
	{regexp.MustCompile(`^[A-Za-z_][A-Za-z_0-9]*`), api.TIdent, 0},
	{regexp.MustCompile(`^[0-9][A-Za-z_0-9]*`), api.TInt, 0},
	{regexp.MustCompile(`^"(?:\\[^\n]|[^"\\\n])*"`), api.TString, 0},
	{regexp.MustCompile(`^"(?:\\[^\n]|[^"\\\n])*\\?`), api.TString, api.DString},
	{regexp.MustCompile(`^'(?:\\[^\n]|[^'\\\n])*'`), api.TRune, 0},
	{regexp.MustCompile(`^'(?:\\[^\n]|[^'\\\n])*\\?`), api.TRune, api.DRune},
	{regexp.MustCompile("^`[^`]*`"), api.TRaw, 0},
	{regexp.MustCompile("^`[^`]*"), api.TRaw, api.DString},
}

// first is the token that stands at a place of s, by the patterns, and what is wrong with it.
func first(s string, at int) (api.Tok, api.Diag) {
	const mark = "\xef\xbb\xbf"
	if at == 0 && strings.HasPrefix(s, mark) {
		return api.Tok{Kind: api.TSpace, From: 0, To: 3}, api.Diag{}
	}
	for _, p := range patterns {
		if found := p.is.FindString(s[at:]); found != "" {
			t := api.Tok{Kind: p.kind, From: at, To: at + len(found)}
			if p.code != 0 {
				return t, api.Diag{Code: p.code, From: t.From, To: t.To}
			}
			return inside(t, found)
		}
	}
	if kind, width := token.Operator(s[at:]); kind != 0 {
		return api.Tok{Kind: kind, From: at, To: at + width}, api.Diag{}
	}
	r, width := utf8.DecodeRuneInString(s[at:])
	t := api.Tok{Kind: api.TBad, From: at, To: at + width}
	if r == 0 || r == 0xFEFF || r == utf8.RuneError && width == 1 {
		return t, api.Diag{} // layer 1 tells of it
	}
	return t, api.Diag{Code: api.DChar, From: t.From, To: t.To}
}

// inside is what layer 2 tells of a token's text.
func inside(t api.Tok, s string) (api.Tok, api.Diag) {
	code, place := 0, 0
	switch t.Kind {
	case api.TIdent:
		if kind := token.Keyword(s); kind != 0 {
			t.Kind = kind
		}
	case api.TInt:
		if _, _, ok := token.Digits(s); !ok {
			return t, api.Diag{Code: api.DNumber, From: t.From, To: t.To}
		}
	case api.TString:
		_, code, place = token.Unquote(s)
	case api.TRune:
		_, code, place = token.Rune(s)
	}
	if code == 0 {
		return t, api.Diag{}
	}
	return t, api.Diag{Code: code, From: t.From + place, To: t.From + place + 1}
}

// scan is what Scan is to tell.
func scan(s string) ([]api.Tok, []api.Diag) {
	var bare, l []api.Tok
	var wrong []api.Diag
	for at := 0; at < len(s); {
		t, d := first(s, at)
		bare = append(bare, t)
		if d != (api.Diag{}) {
			wrong = append(wrong, d)
		}
		at = t.To
	}
	for i, t := range bare {
		l = append(l, t)
		next := slices.IndexFunc(bare[i+1:], func(t api.Tok) bool { return !token.Trivia(t.Kind) })
		// Of all trivia only line feeds and general comments have line feeds in them.
		if token.Ends(t.Kind) && (next < 0 || strings.Contains(s[t.To:bare[i+1+next].From], "\n")) {
			l = append(l, api.Tok{Kind: api.TAuto, From: t.To, To: t.To})
		}
	}
	return l, wrong
}

// expectScan holds Scan of s against the patterns, and against what follows by P3.4.
func expectScan(t *testing.T, s string) {
	t.Helper()
	l, wrong := lexer.Scan(s)
	wantTokens, wantWrong := scan(s)
	if !slices.Equal(l, wantTokens) || !slices.Equal(wrong, wantWrong) {
		t.Fatalf("Scan(%q): %v, %v, want %v, %v", s, l, wrong, wantTokens, wantWrong)
	}
	at, auto, bad := 0, false, false
	for _, tok := range l {
		isAuto := tok.Kind == api.TAuto
		if tok.From != at || (tok.From == tok.To) != isAuto || tok.To < at || isAuto && auto {
			t.Fatalf("Scan(%q): %v do not lie one behind the other", s, l)
		}
		at, auto = tok.To, isAuto
		bad = bad || tok.Kind == api.TBad
	}
	if at != len(s) {
		t.Fatalf("Scan(%q): %v, without the end", s, l)
	}
	if bad && len(wrong) == 0 && len(text.Check(s)) == 0 {
		t.Fatalf("Scan(%q): %v, and nothing is said of what is bad", s, l)
	}
}

// told is a text, the names of its tokens with their texts' lengths left out, and its diagnostics.
type told struct {
	text, names string
	wrong       []api.Diag
}

// names are the names of tokens.
func names(l []api.Tok) string {
	var all []string
	for _, t := range l {
		all = append(all, token.Name(t.Kind))
	}
	return strings.Join(all, " ")
}

func expectTold(t *testing.T, l []told) {
	t.Helper()
	for _, c := range l {
		tokens, wrong := lexer.Scan(c.text)
		if got := names(tokens); got != c.names || !slices.Equal(wrong, c.wrong) {
			t.Errorf("Scan(%q): %s, %v, want %s, %v", c.text, got, wrong, c.names, c.wrong)
		}
		expectScan(t, c.text)
	}
}

// one is a list of one diagnostic.
func one(code, from, to int) []api.Diag { return []api.Diag{{Code: code, From: from, To: to}} }

// TestScanExamples: P3.1, the chapter's examples.
func TestScanExamples(t *testing.T) {
	expectTold(t, []told{
		{"x := 1\n", "name space := space int auto feed", nil},
		{"a+++b", "name ++ + name auto", nil},
		{"f() // c", "name ( ) auto space comment", nil},
		{"a /* \n */ b", "name auto space block space name auto", nil},
		{`"a\"b"`, "string auto", nil},
		{`"a`, "string auto", one(api.DString, 0, 2)},
		{`'x'`, "rune auto", nil},
		{"0x1G", "int auto", one(api.DNumber, 0, 4)},
		{"1.5", "int . int auto", nil},
		{"#", "bad", one(api.DChar, 0, 1)},
		{"\xff", "bad", nil},
		{"..", ". .", nil}, {"...", "...", nil}, {"&^=", "&^=", nil}, {"<<=", "<<=", nil},
	})
	want := []api.Tok{{Kind: api.TIdent, From: 0, To: 1}, {Kind: api.TAuto, From: 1, To: 1}, {Kind: api.TSpace, From: 1, To: 3}, {Kind: api.TFeed, From: 3, To: 4}, {Kind: api.TDots, From: 4, To: 7}}
	if l, wrong := lexer.Scan("a \t\n..."); !slices.Equal(l, want) || len(wrong) > 0 {
		t.Errorf("%v, %v, want %v", l, wrong, want)
	}
}

// TestScanTrivia: P3.1, blanks, line feeds, comments, characters of no token.
func TestScanTrivia(t *testing.T) {
	expectTold(t, []told{
		{"", "", nil},
		{" \t\r\r \t", "space", nil}, {"\n\n", "feed feed", nil}, {"\r\n\r", "space feed space", nil},
		{"\xef\xbb\xbf", "space", nil}, {"\xef\xbb\xbf a", "space space name auto", nil}, {"\xef\xbb\xbf\xef\xbb\xbf", "space bad", nil},
		{" \xef\xbb\xbf", "space bad", nil}, {"\xef\xbb", "bad bad", nil}, {"a\xef\xbb\xbfb", "name bad name auto", nil},
		{"//", "comment", nil}, {"//\r\n", "comment feed", nil}, {"///* \xff\x00\n*/", "comment feed * /", nil},
		{"/**/", "block", nil}, {"/*/*/", "block", nil}, {"/***/", "block", nil}, {"/* // */x", "block name auto", nil}, {"/*\"*/\"\"", "block string auto", nil},
		{"/*", "block", one(api.DComment, 0, 2)}, {"/*/", "block", one(api.DComment, 0, 3)}, {" /* \n// *", "space block", one(api.DComment, 1, 9)}, {"/* * /", "block", one(api.DComment, 0, 6)},
		{"/", "/", nil}, {"/ /", "/ space /", nil}, {"/ *", "/ space *", nil}, {"/=", "/=", nil}, {"*//", "* comment", nil},
		{"$?@\\", "bad bad bad bad", []api.Diag{{Code: api.DChar, From: 0, To: 1}, {Code: api.DChar, From: 1, To: 2}, {Code: api.DChar, From: 2, To: 3}, {Code: api.DChar, From: 3, To: 4}}},
		{"\u00e9", "bad", one(api.DChar, 0, 2)}, {"a\u00e9b", "name bad name auto", one(api.DChar, 1, 3)}, {"\U0001F600", "bad", one(api.DChar, 0, 4)}, {"\ufffd", "bad", one(api.DChar, 0, 3)}, {"\u0661", "bad", one(api.DChar, 0, 2)},
		{"\x00", "bad", nil}, {"\x01", "bad", one(api.DChar, 0, 1)}, {"\x7f", "bad", one(api.DChar, 0, 1)}, {"\x0b\x0c", "bad bad", []api.Diag{{Code: api.DChar, From: 0, To: 1}, {Code: api.DChar, From: 1, To: 2}}}, {"\u00a0", "bad", one(api.DChar, 0, 2)},
		{"\xed\xa0\x80", "bad bad bad", nil}, {"\xf0\x9f\x98", "bad bad bad", nil}, {"\xc0\x80", "bad bad", nil},
	})
}

// TestScanWords: P3.1, names, keywords and numbers.
func TestScanWords(t *testing.T) {
	expectTold(t, []told{
		{"_", "name auto", nil}, {"aZ_09", "name auto", nil}, {"func", "func", nil}, {"funcs", "name auto", nil}, {"Func", "name auto", nil}, {"func1", "name auto", nil}, {"goto", "name auto", nil},
		{"break fallthrough return continue", "break space fallthrough space return space continue auto", nil},
		{"0", "int auto", nil}, {"0_17", "int auto", nil}, {"0x_Ff", "int auto", nil}, {"1_000", "int auto", nil},
		{"08", "int auto", one(api.DNumber, 0, 2)}, {" 1_", "space int auto", one(api.DNumber, 1, 3)}, {"0b", "int auto", one(api.DNumber, 0, 2)}, {"1a", "int auto", one(api.DNumber, 0, 2)}, {"1e5", "int auto", one(api.DNumber, 0, 3)},
		{".5", ". int auto", nil}, {"1.", "int .", nil}, {"1..2", "int . . int auto", nil}, {"-1", "- int auto", nil}, {"1e+5", "int + int auto", one(api.DNumber, 0, 2)}, {"1if", "int auto", one(api.DNumber, 0, 3)},
	})
}

// TestScanLiterals: P3.1, texts and runes, with their ends and without.
func TestScanLiterals(t *testing.T) {
	expectTold(t, []told{
		{`""`, "string auto", nil}, {`"a"b`, "string name auto", nil}, {`"\\"b"`, "string name string auto", one(api.DString, 5, 6)}, {`"\\\""`, "string auto", nil}, {"\"'`//\"", "string auto", nil},
		{`"`, "string auto", one(api.DString, 0, 1)}, {"\"a\n\"", "string auto feed string auto", []api.Diag{{Code: api.DString, From: 0, To: 2}, {Code: api.DString, From: 3, To: 4}}},
		{`"a\`, "string auto", one(api.DString, 0, 3)}, {`"a\"`, "string auto", one(api.DString, 0, 4)}, {"\"\\\n\"\"", "string auto feed string auto", one(api.DString, 0, 2)}, {"\"\\\\\n", "string auto feed", one(api.DString, 0, 3)}, {"\"\\z\n", "string auto feed", one(api.DString, 0, 3)},
		{`a"\z\y"`, "name string auto", one(api.DEscape, 2, 3)}, {`"ab\400"`, "string auto", one(api.DEscape, 3, 4)}, {`"\'"`, "string auto", one(api.DEscape, 1, 2)}, {"\"\xff\u00e9\r\x00\"", "string auto", nil}, {"\"\\\u00e9\"", "string auto", one(api.DEscape, 1, 2)},
		{`'\''`, "rune auto", nil}, {`'"'`, "rune auto", nil}, {"'\u00e9'", "rune auto", nil}, {`'\\'`, "rune auto", nil},
		{`''`, "rune auto", one(api.DRune, 0, 1)}, {` 'ab'`, "space rune auto", one(api.DRune, 1, 2)}, {`'''`, "rune rune auto", []api.Diag{{Code: api.DRune, From: 0, To: 1}, {Code: api.DRune, From: 2, To: 3}}}, {"'\xff'", "rune auto", one(api.DRune, 0, 1)},
		{`x'\z'`, "name rune auto", one(api.DEscape, 2, 3)}, {`'a\z'`, "rune auto", one(api.DRune, 0, 1)}, {`'\"'`, "rune auto", one(api.DEscape, 1, 2)},
		{`'`, "rune auto", one(api.DRune, 0, 1)}, {"'a\nb'", "rune auto feed name rune auto", []api.Diag{{Code: api.DRune, From: 0, To: 2}, {Code: api.DRune, From: 4, To: 5}}}, {`'\`, "rune auto", one(api.DRune, 0, 2)}, {"'\\\n", "rune auto feed", one(api.DRune, 0, 2)}, {`'\'`, "rune auto", one(api.DRune, 0, 3)},
		{"``", "raw auto", nil}, {"`a\n\"'\\`b", "raw name auto", nil}, {"`\r\xff`", "raw auto", nil}, {"`\\``", "raw raw auto", one(api.DString, 3, 4)},
		{"`", "raw auto", one(api.DString, 0, 1)}, {"a `\n\n", "name space raw auto", one(api.DString, 2, 5)},
	})
}

// TestScanAutos: P3.1, behind which tokens, and ahead of what, semicolons are put in.
func TestScanAutos(t *testing.T) {
	expectTold(t, []told{
		{"a\n\n\nb\n", "name auto feed feed feed name auto feed", nil},
		{"a // c\n+ b", "name auto space comment feed + space name auto", nil}, {"a // c", "name auto space comment", nil}, {"a //\xff", "name auto space comment", nil},
		{"a /* */ b", "name space block space name auto", nil}, {"a /* */ /* \n */ b", "name auto space block space block space name auto", nil}, {"a /* */\nb", "name auto space block feed name auto", nil},
		{"a /* ", "name auto space block", one(api.DComment, 2, 5)}, {"a /*\n", "name auto space block", one(api.DComment, 2, 5)}, {"+ /*\n*/ b", "+ space block space name auto", nil},
		{"a # \n", "name auto space bad space feed", one(api.DChar, 2, 3)}, {"a\x00", "name auto bad", nil}, {"a # b", "name space bad space name auto", one(api.DChar, 2, 3)}, {"# \n", "bad space feed", one(api.DChar, 0, 1)},
		{"a;\n", "name ; feed", nil}, {"a,\n", "name , feed", nil}, {"{\n}\n", "{ feed } auto feed", nil}, {"if\nx", "if feed name auto", nil}, {"a\r\n", "name auto space feed", nil},
		{"x++\ny--", "name ++ auto feed name -- auto", nil}, {")]}", ") ] } auto", nil}, {"\n//\n/*\n*/", "feed comment feed block", nil}, {"a`\n`b", "name raw name auto", nil},
	})
	for kind := range 200 {
		switch kind {
		case api.TSpace, api.TFeed, api.TComment, api.TBlock, api.TBad, api.TIdent, api.TInt, api.TRune, api.TString, api.TRaw, api.TAuto:
			continue
		}
		s := token.Name(kind)
		if s == "" {
			continue
		}
		want := s + " feed name auto"
		if token.Ends(kind) {
			want = s + " auto feed name auto"
		}
		expectTold(t, []told{{s + "\na", want, nil}, {s, strings.TrimSuffix(want, " feed name auto"), nil}})
	}
}

// TestScanAll: P3.1 and P3.4, all short texts of the bytes that count.
func TestScanAll(t *testing.T) {
	for _, c := range []struct {
		alphabet string
		n        int
	}{
		{"a0 \n\"'`\\/*+.#", 4}, {"a\n\"'\\", 6}, {"/*\n a", 7}, {"\xef\xbb\xbf a", 6}, {"a\n`/*", 6}, {"<>&^=|!:+-.", 4}, {"\xf0\x9f\x98\x80\xc3.a", 5}, {"01_xba.", 5},
	} {
		probe.Every(c.alphabet, c.n, func(s string) { expectScan(t, s) })
	}
	for a := range 256 {
		for b := range 256 {
			expectScan(t, string([]byte{byte(a), byte(b)}))
			expectScan(t, string([]byte{'a', byte(a), byte(b), '\n'}))
		}
	}
}

// snippets are pieces of which texts of tests are put together.
var snippets = []string{
	"a", "func", "return", "x1", "0", "12", "0x1G", "_", " ", "  ", "\t", "\n", "\n\n", "\r\n", "//", "// c\n", "/*", "*/", "/* b */", "/*\n*/", "\"", "\"s\"", "\"\\\"\"", "\"\\z\"", "'", "'a'", "'\\n'", "''", "`", "`r\n`",
	"\\", "+", "++", "=", ":=", ".", "..", "...", "&^=", "<<", "(", ")", "{", "}", "[", "]", ";", ",", "#", "\x00", "\xff", "\xef\xbb\xbf", "\xe2\x82\xac", "\xf0\x9f\x98", "\x80", "\u00e9",
}

// anyText puts up to n snippets together, and cuts some bytes off now and then.
func anyText(r *rand.Rand, n int) string {
	var b strings.Builder
	for range r.Intn(n + 1) {
		s := snippets[r.Intn(len(snippets))]
		b.WriteString(s[r.Intn(10)*len(s)/90:])
	}
	return b.String()
}

// TestScanTexts: P3.1 and P3.4, longer texts.
func TestScanTexts(t *testing.T) {
	r := rand.New(rand.NewSource(1))
	for range 30000 {
		expectScan(t, anyText(r, 30))
	}
	for _, s := range []string{"/*", "\"", "`", "'", "a", "1", " ", "\n", ".", "\xf0", "\\", "(", "a\n", "/**/", "a/**/", "\"\\", "//", "\xef\xbb\xbf"} {
		expectScan(t, strings.Repeat(s, 1000))
	}
}

// program is a text of the language, of which the library's scanner tells the same significant tokens.
const program = "package p // of tests\n\nimport (\n\t\"q\"\n\tr \"s/t\"\n)\n\n/* A general\ncomment. */\nconst A, B = 1 << 10, 'x' /* in a line */ + '\\n'\n\ntype L[E ~int | ~string] struct {\n\te E; next *L[E]\n}\n\nfunc (l *L[T]) Len() (n int) {\n\tfor ; l != nil; l = l.next { n++ }\n\treturn\n}\n\nvar s = []string{\"a\\\"b\", `raw\n\\`, \"\"}\n\nfunc f(xs ...int) map[string]int {\nouter:\n\tfor i := range 3 {\n\t\tswitch {\n\t\tcase i &^ 1 == 0, i >= 0x_1F && !false:\n\t\t\tbreak outer\n\t\tdefault:\n\t\t\ti &^= 0b1; i <<= 2; xs[i]--\n\t\t\tfallthrough\n\t\tcase i%2 != 1 || i^i < 0_7: continue\n\t\t}\n\t}\n\tdefer func() { recover() }()\n\tif v, ok := any(xs).(interface{ M() }); ok { v.M() } else { panic(-1) }\n\treturn map[string]int{\"k\": xs[1:2:3][0] >> 1 * 2 / 3}\n}"

// TestScanProgram: P3.1, a text of the language, held against the library's scanner.
func TestScanProgram(t *testing.T) {
	var want []string
	var sc scanner.Scanner
	file := gotoken.NewFileSet().AddFile("p.go", -1, len(program))
	sc.Init(file, []byte(program), func(_ gotoken.Position, msg string) { t.Error(msg) }, 0)
	for {
		_, tok, lit := sc.Scan()
		if tok == gotoken.EOF {
			break
		}
		switch {
		case tok == gotoken.SEMICOLON && lit != ";":
			want = append(want, "")
		case lit != "":
			want = append(want, lit)
		default:
			want = append(want, tok.String())
		}
	}
	l, wrong := lexer.Scan(program)
	var got []string
	for _, tok := range l {
		if !token.Trivia(tok.Kind) {
			got = append(got, program[tok.From:tok.To])
		}
	}
	if !slices.Equal(got, want) || len(wrong) > 0 {
		t.Errorf("%q, %v, want %q", got, wrong, want)
	}
	expectScan(t, program)
}

// TestScanMemory: R3, what one call answers is not what another one does.
func TestScanMemory(t *testing.T) {
	l, wrong := lexer.Scan("a # b")
	for i := range l[:cap(l)] {
		l[:cap(l)][i] = api.Tok{Kind: -1}
	}
	for i := range wrong[:cap(wrong)] {
		wrong[:cap(wrong)][i] = api.Diag{Code: -1}
	}
	expectScan(t, "a # b")
}
