package probe

import (
	"scholiast/api"
	"scholiast/token"
)

// letters are what the letters of a text stand for: n, m and s a name, a number and a text, g a guard behind an operand, b a block, l a slice's brackets, signs and other words as they are written or begin; a is a semicolon that is inserted, and w a word that a test chooses.
func letters(letter byte, word int) []int {
	switch letter {
	case 'n':
		return []int{api.TIdent}
	case 'm':
		return []int{api.TInt}
	case 's':
		return []int{api.TString}
	case 'g':
		return []int{api.TPeriod, api.TLparen, api.TType, api.TRparen}
	case 'b':
		return []int{api.TLbrace, api.TRbrace}
	case 'l':
		return []int{api.TLbrack, api.TRbrack}
	case 'a':
		return []int{api.TAuto}
	case 'w':
		return []int{word}
	case 'r':
		return []int{api.TRange}
	case 'e':
		return []int{api.TElse}
	case 'c':
		return []int{api.TCase}
	case 'd':
		return []int{api.TDefault}
	case '.':
		return []int{api.TColon}
	case ':':
		return []int{api.TDefine}
	case '+':
		return []int{api.TRemTo}
	case '^':
		return []int{api.TDec}
	}
	kind, _ := token.Operator(string(letter))
	return []int{kind}
}

// Spelt are the tokens that a text of letters stands for, each one byte wide.
func Spelt(word int, s string) []api.Tok {
	var l []api.Tok
	for i := range len(s) {
		for _, kind := range letters(s[i], word) {
			l = append(l, api.Tok{Kind: kind, From: len(l), To: len(l) + 1})
		}
	}
	return l
}
