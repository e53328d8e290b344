package token

import "strings"

// noDigit is what digit tells of a byte that is a digit of no base.
const noDigit = 16

// digit tells the value of a digit of the base 16, or noDigit. It is below a base just if the byte is one of that base's digits.
func digit(c byte) int {
	switch {
	case '0' <= c && c <= '9':
		return int(c - '0')
	case 'a' <= c && c <= 'f':
		return int(c-'a') + 10
	case 'A' <= c && c <= 'F':
		return int(c-'A') + 10
	}
	return noDigit
}

// Digits tells a number's base and its digits, and whether s is a number.
func Digits(s string) (int, string, bool) {
	base, ahead := prefix(s)
	digits := s[ahead:]
	if ahead > 0 {
		digits = strings.TrimPrefix(digits, "_")
	}
	digits, ok := joinDigits(digits, base)
	if !ok {
		return 0, "", false
	}
	return base, digits, true
}

// prefix tells which base a number has by how it begins, and how many bytes tell that and are no digits. A 0 alone is a digit, a 0 with something behind it is none.
func prefix(s string) (int, int) {
	if len(s) < 2 || s[0] != '0' {
		return 10, 0
	}
	switch s[1] {
	case 'b', 'B':
		return 2, 2
	case 'o', 'O':
		return 8, 2
	case 'x', 'X':
		return 16, 2
	}
	return 8, 1
}

// joinDigits tells the digits of a base without what stands between them, and whether s is just that: digits, and at most one _ between each two of them.
func joinDigits(s string, base int) (string, bool) {
	var digits []byte
	apart := true // whether a digit must come next: at the beginning and behind each _
	for i := range len(s) {
		switch {
		case digit(s[i]) < base:
			digits = append(digits, s[i])
			apart = false
		case s[i] == '_' && !apart:
			apart = true
		default:
			return "", false
		}
	}
	return string(digits), !apart
}
