package token

import (
	"strings"
	"unicode/utf8"

	"scholiast/api"
)

// Unquote tells what a text literal says; or the code of what is wrong with it, and where.
func Unquote(s string) (string, int, int) {
	switch {
	case strings.HasPrefix(s, "`"):
		return unquoteRaw(s)
	case strings.HasPrefix(s, `"`):
		return unquoteText(s)
	}
	return "", api.DString, 0
}

// unquoteRaw tells what a literal says that begins with a back quote.
func unquoteRaw(s string) (string, int, int) {
	said := s[1:]
	end := strings.IndexByte(said, '`')
	if end < 0 || end != len(said)-1 {
		return "", api.DString, 0
	}
	return strings.ReplaceAll(said[:end], "\r", ""), 0, 0
}

// unquoteText tells what a literal says that begins with ".
func unquoteText(s string) (string, int, int) {
	var said []byte
	for at := 1; at < len(s); {
		switch s[at] {
		case '\\':
			e := escapeAt(s, at, '"')
			if e.width == 0 {
				return "", api.DEscape, at
			}
			said = e.appendTo(said)
			at += e.width
		case '"':
			if at == len(s)-1 {
				return string(said), 0, 0
			}
			fallthrough // within a text this sign may stand no more than a line feed
		case '\n':
			return "", api.DString, 0
		default:
			said = append(said, s[at])
			at++
		}
	}
	return "", api.DString, 0
}

// Rune tells the number that a rune literal says; or the code of what is wrong with it, and where.
func Rune(s string) (int, int, int) {
	if len(s) < 2 || s[0] != '\'' {
		return 0, api.DRune, 0
	}
	var said, width int
	switch s[1] {
	case '\\':
		e := escapeAt(s, 1, '\'')
		if e.width == 0 {
			return 0, api.DEscape, 1
		}
		said, width = e.number, e.width
	case '\'', '\n': // no characters of a literal: its width stays 0
	default:
		said, width = character(s, 1)
	}
	if width == 0 || s[1+width:] != "'" {
		return 0, api.DRune, 0
	}
	return said, 0, 0
}

// character tells the number and the width of the character that stands at a place of s, or 0 and 0.
func character(s string, at int) (int, int) {
	r, width := utf8.DecodeRuneInString(s[at:])
	if r == utf8.RuneError && width < 2 { // the character FFFD itself has three bytes
		return 0, 0
	}
	return int(r), width
}

// escape is what a backslash and the bytes behind it say.
type escape struct {
	number int  // of a byte, or of a rune
	isRune bool // a text has it in UTF-8, not as one byte
	width  int  // its bytes, with the backslash; 0: it is no escape
}

// appendTo puts what the escape says behind the bytes of a text.
func (e escape) appendTo(said []byte) []byte {
	if e.isRune {
		return utf8.AppendRune(said, rune(e.number))
	}
	return append(said, byte(e.number))
}

// escapeAt reads the escape whose backslash stands at a place of s, in a literal that has that quote.
func escapeAt(s string, at int, quote byte) escape {
	if at+1 >= len(s) {
		return escape{}
	}
	switch c := s[at+1]; c {
	case 'x':
		return byteEscape(s, at, 2, 2, 16)
	case 'u':
		return runeEscape(s, at, 4)
	case 'U':
		return runeEscape(s, at, 8)
	case '0', '1', '2', '3', '4', '5', '6', '7':
		return byteEscape(s, at, 1, 3, 8)
	default:
		return signEscape(c, quote)
	}
}

// byteEscape reads an escape of a byte: count digits of a base, behind the backslash and what else stands ahead of them.
func byteEscape(s string, at, ahead, count, base int) escape {
	n, ok := number(s, at+ahead, count, base)
	if !ok || n > 0xFF {
		return escape{}
	}
	return escape{number: n, width: ahead + count}
}

// runeEscape reads an escape of a rune: count digits of the base 16, behind the backslash and a letter.
func runeEscape(s string, at, count int) escape {
	n, ok := number(s, at+2, count, 16)
	if !ok || n > utf8.MaxRune || !utf8.ValidRune(rune(n)) {
		return escape{}
	}
	return escape{number: n, isRune: true, width: 2 + count}
}

// number reads count digits of a base, from a place of s on, and says whether they stand there.
func number(s string, from, count, base int) (int, bool) {
	if count > len(s)-from {
		return 0, false
	}
	n := 0
	for i := range count {
		d := digit(s[from+i])
		if d >= base {
			return 0, false
		}
		n = n*base + d
	}
	return n, true
}

// signEscape tells what one sign behind a backslash says.
func signEscape(c, quote byte) escape {
	switch c {
	case 'a':
		return escape{number: 7, width: 2}
	case 'b':
		return escape{number: 8, width: 2}
	case 'f':
		return escape{number: 12, width: 2}
	case 'n':
		return escape{number: 10, width: 2}
	case 'r':
		return escape{number: 13, width: 2}
	case 't':
		return escape{number: 9, width: 2}
	case 'v':
		return escape{number: 11, width: 2}
	case '\\', quote:
		return escape{number: int(c), width: 2}
	}
	return escape{}
}
