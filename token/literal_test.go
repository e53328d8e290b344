package token_test

import (
	"fmt"
	"math/rand"
	"regexp"
	"strconv"
	"strings"
	"testing"
	"unicode/utf8"

	"scholiast/api"
	"scholiast/probe"
	"scholiast/token"
)

// escapes is P2.6 as a regular expression, but for the quote: H is a digit of the base 16.
var escapes = strings.ReplaceAll(`\\(?:[abfnrtv\\]|[0-3][0-7][0-7]|xHH|(?:u|U0000)(?:[0-9a-cefA-CEF]HHH|[dD][0-7]HH)|U000[1-9a-fA-F]HHHH|U0010HHHH)`, "H", "[0-9a-fA-F]")

var (
	textBegins = regexp.MustCompile(`^"(?s:[^"\\\n]|` + escapes + `|\\")*`)
	runeIs     = regexp.MustCompile(`^'(?s:[^'\\\n]|` + escapes + `|\\')'$`)
	runeBegins = regexp.MustCompile(`^'(?:` + escapes + `|\\')`)
)

// unquoteCode is what P2.7 tells of a literal beside what it says.
func unquoteCode(s string) (int, int) {
	if strings.HasPrefix(s, "`") {
		if len(s) > 1 && strings.Index(s[1:], "`") == len(s)-2 {
			return 0, 0
		}
		return api.DString, 0
	}
	begin := textBegins.FindString(s)
	switch rest := s[len(begin):]; {
	case begin == "":
		return api.DString, 0
	case strings.HasPrefix(rest, `\`):
		return api.DEscape, len(begin)
	case rest == `"`:
		return 0, 0
	}
	return api.DString, 0
}

// runeCode is what P2.8 tells of a literal beside its number.
func runeCode(s string) (int, int) {
	switch {
	case strings.HasPrefix(s, `'\`) && !runeBegins.MatchString(s):
		return api.DEscape, 1
	case utf8.ValidString(s) && runeIs.MatchString(s):
		return 0, 0
	}
	return api.DRune, 0
}

// expectUnquote holds Unquote of s against P2.7; what it says is held against the library, which reads texts of UTF-8 in the same way.
func expectUnquote(t *testing.T, s string) {
	t.Helper()
	said, code, at := token.Unquote(s)
	wantCode, wantAt := unquoteCode(s)
	if code != wantCode || at != wantAt {
		t.Fatalf("Unquote(%q): %d, %d, want %d, %d", s, code, at, wantCode, wantAt)
	}
	want := ""
	if code == 0 {
		var err error
		if want, err = strconv.Unquote(s); err != nil {
			t.Fatalf("%q: %v", s, err)
		}
	}
	if said != want {
		t.Fatalf("Unquote(%q): %q, want %q", s, said, want)
	}
}

// expectRune holds Rune of s against P2.8.
func expectRune(t *testing.T, s string) {
	t.Helper()
	n, code, at := token.Rune(s)
	wantCode, wantAt := runeCode(s)
	if code != wantCode || at != wantAt {
		t.Fatalf("Rune(%q): %d, %d, want %d, %d", s, code, at, wantCode, wantAt)
	}
	want := rune(0)
	if code == 0 {
		var err error
		if want, _, _, err = strconv.UnquoteChar(s[1:], '\''); err != nil {
			t.Fatalf("%q: %v", s, err)
		}
	}
	if n != int(want) {
		t.Fatalf("Rune(%q): %d, want %d", s, n, want)
	}
}

// TestUnquote: P2.7, texts that are right.
func TestUnquote(t *testing.T) {
	for _, c := range []struct{ text, said string }{
		{`"a\x41\u00e9\""`, `aA` + "\u00e9" + `"`},
		{`""`, ""}, {"``", ""}, {`"'"`, "'"}, {"\"`\"", "`"}, {"\"\r\t\x00\x7f\"", "\r\t\x00\x7f"},
		{`"\a\b\f\n\r\t\v\\\""`, "\x07\x08\x0c\x0a\x0d\x09\x0b\x5c\x22"},
		{`"\000\101\377"`, "\x00A\xff"}, {`"\1010"`, "A0"}, {`"\x00\xfF\x414"`, "\x00\xffA4"},
		{`"\u0000\u00ff\ud7ff\ue000\uFFFF"`, "\x00\u00ff\ud7ff\ue000\uffff"}, {`"\U00000041\U0010ffff"`, "A\U0010ffff"},
		{`"\\n"`, `\n`}, {`"\\\\"`, `\\`}, {`"//"`, "//"},
		{"\"\xff\xc3\u00e9\xed\xa0\x80\"", "\xff\xc3\u00e9\xed\xa0\x80"}, // a byte says itself, whatever it is
		{`"` + "\xef\xbb\xbf" + `"`, "\xef\xbb\xbf"},
		{"`a\r\nb\r`", "a\nb"}, {"`\\n\"'`", `\n"'`}, {"`\xff\x00\r\r`", "\xff\x00"}, {"`\n`", "\n"},
		{`"` + strings.Repeat("\\n", 10000) + `"`, strings.Repeat("\n", 10000)},
	} {
		if said, code, at := token.Unquote(c.text); said != c.said || code != 0 || at != 0 {
			t.Errorf("Unquote(%.40q): %.40q, %d, %d, want %.40q", c.text, said, code, at, c.said)
		}
	}
}

// TestUnquoteWrong: P2.7, what was wrong first is told, and nothing beside it.
func TestUnquoteWrong(t *testing.T) {
	for _, c := range []struct {
		text     string
		code, at int
	}{
		{"", api.DString, 0}, {"a", api.DString, 0}, {`'a'`, api.DString, 0}, {` "a"`, api.DString, 0}, {`\"`, api.DString, 0}, {`a"`, api.DString, 0}, {"a`b`", api.DString, 0},
		{`"`, api.DString, 0}, {`"a`, api.DString, 0}, {`"a"b"`, api.DString, 0}, {`"a"b`, api.DString, 0}, {`"""`, api.DString, 0}, {`"" `, api.DString, 0}, {"\"a`", api.DString, 0},
		{"\"a\n\"", api.DString, 0}, {"\"\n", api.DString, 0}, {"\"a\"\n", api.DString, 0}, {`"\"`, api.DString, 0}, {`"a\\\"`, api.DString, 0}, {`"a'`, api.DString, 0},
		{"`", api.DString, 0}, {"`a", api.DString, 0}, {"`a`b", api.DString, 0}, {"`a`b`", api.DString, 0}, {"```", api.DString, 0}, {"`` ", api.DString, 0}, {"`\\`a`", api.DString, 0}, {"`\r", api.DString, 0},
		{`"\`, api.DEscape, 1}, {`"a\`, api.DEscape, 2}, {`"\'"`, api.DEscape, 1}, {`"\400"`, api.DEscape, 1}, {`"\777"`, api.DEscape, 1}, {`"\8"`, api.DEscape, 1}, {`"\08"`, api.DEscape, 1}, {`"\01"`, api.DEscape, 1}, {`"\01`, api.DEscape, 1}, {`"\078"`, api.DEscape, 1}, {`"\0`, api.DEscape, 1},
		{`"\x"`, api.DEscape, 1}, {`"\x4"`, api.DEscape, 1}, {`"\x4`, api.DEscape, 1}, {`"\x4g"`, api.DEscape, 1}, {`"\xg4"`, api.DEscape, 1}, {`"\X41"`, api.DEscape, 1}, {`"\x`, api.DEscape, 1},
		{`"\u"`, api.DEscape, 1}, {`"\u041"`, api.DEscape, 1}, {`"\u00g0"`, api.DEscape, 1}, {`"\ud800"`, api.DEscape, 1}, {`"\uDFFF"`, api.DEscape, 1}, {`"\u004`, api.DEscape, 1},
		{`"\U0000041"`, api.DEscape, 1}, {`"\U00110000"`, api.DEscape, 1}, {`"\U0000d800"`, api.DEscape, 1}, {`"\U0000dfff"`, api.DEscape, 1}, {`"\Uffffffff"`, api.DEscape, 1}, {`"\U80000041"`, api.DEscape, 1}, {`"\U7fffffff"`, api.DEscape, 1}, {`"\U01000041"`, api.DEscape, 1},
		{`"\q"`, api.DEscape, 1}, {`"\N"`, api.DEscape, 1}, {`"\0x41"`, api.DEscape, 1}, {"\"\\\n\"", api.DEscape, 1}, {"\"\\`\"", api.DEscape, 1}, {"\"\\\xff\"", api.DEscape, 1}, {`"\_"`, api.DEscape, 1}, {`"\ "`, api.DEscape, 1}, {`"\e"`, api.DEscape, 1}, {`"\s"`, api.DEscape, 1},
		{`"ab\n\z\400"`, api.DEscape, 5}, {"\"\\z\n", api.DEscape, 1}, {`"\z`, api.DEscape, 1}, {`"\z"b`, api.DEscape, 1}, // the first from the left
		{"\"\n\\z\"", api.DString, 0}, {`"a"\z"`, api.DString, 0}, {"\"\u00e9\\z\"", api.DEscape, 3},
	} {
		if said, code, at := token.Unquote(c.text); said != "" || code != c.code || at != c.at {
			t.Errorf("Unquote(%q): %q, %d, %d, want %d, %d", c.text, said, code, at, c.code, c.at)
		}
	}
}

// TestRune: P2.8, rune literals that are right.
func TestRune(t *testing.T) {
	for _, c := range []struct {
		text string
		want int
	}{
		{`'a'`, 97}, {`'\n'`, 10}, {`'\xff'`, 255}, {`'\U0010FFFF'`, 1114111},
		{`'"'`, 34}, {"'`'", 96}, {`' '`, 32}, {"'\x00'", 0}, {"'\r'", 13}, {"'\t'", 9}, {"'\x7f'", 127},
		{`'\a'`, 7}, {`'\b'`, 8}, {`'\f'`, 12}, {`'\r'`, 13}, {`'\t'`, 9}, {`'\v'`, 11}, {`'\\'`, 92}, {`'\''`, 39},
		{`'\000'`, 0}, {`'\377'`, 255}, {`'\101'`, 65}, {`'\x00'`, 0}, {`'\x4A'`, 74}, {`'\u0000'`, 0}, {`'\u00ff'`, 255}, {`'\ud7FF'`, 0xD7FF}, {`'\ue000'`, 0xE000}, {`'\U00000041'`, 65},
		{"'\u0080'", 0x80}, {"'\u00e9'", 0xE9}, {"'\u0800'", 0x800}, {"'\ufeff'", 0xFEFF}, {"'\ufffd'", 0xFFFD}, {"'\U00010000'", 0x10000}, {"'\U0010ffff'", 0x10FFFF},
	} {
		if n, code, at := token.Rune(c.text); n != c.want || code != 0 || at != 0 {
			t.Errorf("Rune(%q): %d, %d, %d, want %d", c.text, n, code, at, c.want)
		}
	}
}

// TestRuneWrong: P2.8, what is no rune literal, and what is no escape.
func TestRuneWrong(t *testing.T) {
	for _, s := range []string{
		"", "'", "''", "'''", "'a", "'ab'", "'ab", "a", "a'", `"a"`, "`a`", " 'a'", "'a' ", "'a'b", "'a''", "'a'\n", "'\n'", "'\n", "'\u00e9", "'e\u0301'",
		`'\'`, `'\n`, `'\nx'`, `'\n'x`, `'\'''`, `'\\`, `'\\\'`, `'\x414'`, `'\1010'`, `'\u00410'`, `'\n\n'`, `'a\z'`, `'\n\z'`, `\n`, `\'`,
		"'\xff'", "'\xc3'", "'\xc3a'", "'\xed\xa0\x80'", "'\xc0\x80'", "'\xf4\x90\x80\x80'", "'\xe2\x82'", "'\x80", "'\u00e9\xff'",
	} {
		if n, code, at := token.Rune(s); n != 0 || code != api.DRune || at != 0 {
			t.Errorf("Rune(%q): %d, %d, %d, want %d, 0", s, n, code, at, api.DRune)
		}
	}
	for _, s := range []string{
		`'\`, `'\"'`, `'\"`, `'\ud800'`, `'\uDFFF'`, `'\U0000dead'`, `'\U00110000'`, `'\UFFFFFFFF'`, `'\U80000041'`, `'\400'`, `'\777'`, `'\0'`, `'\00'`, `'\08'`, `'\8'`, `'\x'`, `'\x4'`, `'\x4`, `'\xg0'`, `'\u041'`, `'\U0000041'`,
		`'\z'`, `'\z`, `'\zz'`, `'\N'`, "'\\\n'", "'\\`'", "'\\\xff'", `'\ '`, `'\X41'`, `'\u`,
	} {
		if n, code, at := token.Rune(s); n != 0 || code != api.DEscape || at != 1 {
			t.Errorf("Rune(%q): %d, %d, %d, want %d, 1", s, n, code, at, api.DEscape)
		}
	}
}

// TestEscapes: P2.6, all escapes of bytes, all of up to four digits, and the borders of those of eight; each alone and behind something else.
func TestEscapes(t *testing.T) {
	var l []string
	for c := range 256 {
		l = append(l, string([]byte{'\\', byte(c)}), fmt.Sprintf(`\x%02x`, c), fmt.Sprintf(`\x%02X`, c))
	}
	for n := range 512 {
		l = append(l, fmt.Sprintf(`\%03o`, n))
	}
	for n := range 0x10000 {
		l = append(l, fmt.Sprintf(`\u%04x`, n))
	}
	for _, n := range []int{0, 0x7F, 0x80, 0xD7FF, 0xD800, 0xDFFF, 0xE000, 0xFFFF, 0x10000, 0x10FFFF, 0x110000, 0x1000041, 0x7FFFFFFF, 0x80000000, 0x80000041, 0xFFFFFFFF} {
		l = append(l, fmt.Sprintf(`\U%08x`, n), fmt.Sprintf(`\U%08X`, n))
	}
	for _, e := range l {
		expectRune(t, "'"+e+"'")
		if utf8.ValidString(e) {
			expectUnquote(t, `"`+e+`"`)
			expectUnquote(t, `"a`+e+`0"`)
		}
	}
}

// TestLiteralsAll: P2.6 to P2.8, all short texts of the bytes that count in literals.
func TestLiteralsAll(t *testing.T) {
	probe.Every("\\\"'`\n\rx4d0U", 5, func(s string) {
		expectUnquote(t, s)
		expectUnquote(t, `"`+s)
		expectUnquote(t, "`"+s)
		expectRune(t, s)
		expectRune(t, "'"+s)
	})
}

// TestLiteralsTotal: R1, whatever the bytes are, an answer comes, and beside a code there is nothing.
func TestLiteralsTotal(t *testing.T) {
	const quotes, others = "\"'`", "\\\\\\xuU0d8f\n\r\xe2\x82\xac\xff"
	r := rand.New(rand.NewSource(1))
	for range 200000 {
		b := make([]byte, 1+r.Intn(12))
		for i := range b {
			b[i] = (quotes + others)[r.Intn(len(quotes+others))]
		}
		b[0] = quotes[r.Intn(len(quotes))]
		s := string(b)
		said, code, at := token.Unquote(s)
		if wantCode, wantAt := unquoteCode(s); code != wantCode || at != wantAt || code != 0 && said != "" {
			t.Fatalf("Unquote(%q): %q, %d, %d, want %d, %d", s, said, code, at, wantCode, wantAt)
		}
		expectRune(t, s)
		token.Digits(s)
		token.Operator(s)
		token.Keyword(s)
	}
}
