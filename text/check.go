package text

import (
	"unicode/utf8"

	"scholiast/api"
)

// byteOrderMark is the character whose form is EF BB BF.
const byteOrderMark = 0xFEFF

// Check tells what may not stand in a file, by rising places.
func Check(s string) []api.Diag {
	var l []api.Diag
	for at := 0; at < len(s); {
		r, width := utf8.DecodeRuneInString(s[at:])
		if code := fault(r, width, at); code != 0 {
			l = append(l, api.Diag{Code: code, From: at, To: at + width})
		}
		at += width
	}
	return l
}

// fault tells the code of what is wrong with a character of so many bytes at a place, or 0.
func fault(r rune, width, at int) int {
	switch {
	case r == utf8.RuneError && width == 1: // the character FFFD itself has three bytes
		return api.DUTF8
	case r == 0:
		return api.DNul
	case r == byteOrderMark && at > 0:
		return api.DMark
	}
	return 0
}
