package lexer

import (
	"strings"

	"scholiast/api"
	"scholiast/token"
)

// appendEnded puts behind the tokens of a list those of l, which have no TAutos, and the TAutos that stand between them. More says that a significant token of s comes directly behind l.
func appendEnded(to []api.Tok, s string, l []api.Tok, more bool) []api.Tok {
	for i, t := range l {
		to = append(to, t)
		if token.Ends(t.Kind) && endsLine(s, l[i+1:], more) {
			to = append(to, api.Tok{Kind: api.TAuto, From: t.To, To: t.To})
		}
	}
	return to
}

// endsLine says whether a line ends ahead of the first significant token of l, or, if there is none, of what comes behind l.
func endsLine(s string, l []api.Tok, more bool) bool {
	for _, t := range l {
		switch {
		case !token.Trivia(t.Kind):
			return false
		case t.Kind == api.TFeed:
			return true
		case t.Kind == api.TBlock && strings.Contains(s[t.From:t.To], "\n"):
			return true
		}
	}
	return !more
}
