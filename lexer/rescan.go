package lexer

import (
	"slices"
	"unicode/utf8"

	"scholiast/api"
	"scholiast/token"
)

// lookahead is how many bytes behind a token may have led to it: a wrong byte is one as those behind it make no character with it. (Behind a period there are two that do not make an ellipsis with it.)
const lookahead = utf8.UTFMax - 1

// Rescan tells the tokens of the text that old becomes by an edit, l being the tokens of old; and how many of them were read again.
func Rescan(old string, l []api.Tok, e api.Edit) ([]api.Tok, int, api.Errno) {
	if e.From < 0 || e.From > e.To || e.To > len(old) {
		return nil, 0, api.ErrRange
	}
	if !cover(l, len(old)) {
		l = nil // so nothing of it is kept
	}
	s := old[:e.From] + e.Text + old[e.To:]
	moved := len(s) - len(old)
	ahead := untouched(l, e.From)
	at := 0
	if ahead > 0 {
		at = l[ahead-1].To
	}
	fresh, behind := reread(s, at, e.From+len(e.Text), l, moved)
	return join(s, l[:ahead], fresh, move(l[behind:], moved)), len(fresh), api.OK
}

// cover says whether the tokens of l lie one behind the other from 0 up to the end of a text.
func cover(l []api.Tok, end int) bool {
	at := 0
	for _, t := range l {
		if t.From != at || t.To < at || (t.To == at) != (t.Kind == api.TAuto) {
			return false
		}
		at = t.To
	}
	return at == end
}

// untouched tells how many of the tokens at the beginning of l an edit from a place on can't change.
func untouched(l []api.Tok, from int) int {
	for i, t := range l {
		if t.To+lookahead > from {
			return i
		}
	}
	return len(l)
}

// reread reads the tokens of s from a place on, until it comes, at the place put or behind it, to where a token of l begins, moved along: from there on the bytes are old ones, and so are the tokens. It tells which token of l that is.
func reread(s string, at, put int, l []api.Tok, moved int) ([]api.Tok, int) {
	var fresh []api.Tok
	behind := 0
	for at < len(s) {
		for behind < len(l) && l[behind].From+moved < at {
			behind++
		}
		if at >= put && behind < len(l) && alike(l[behind].From, at, moved) {
			return fresh, behind
		}
		t, _ := next(s, at)
		fresh = append(fresh, t)
		at = t.To
	}
	return fresh, len(l)
}

// alike says whether what is read at a place of the old text is read at a place of the new one, too, if the same bytes stand there. Where a text begins a byte order mark is another token than elsewhere.
func alike(from, at, moved int) bool {
	return from+moved == at && (from == 0) == (at == 0)
}

// move tells the tokens of l, so many bytes further on.
func move(l []api.Tok, by int) []api.Tok {
	moved := slices.Clone(l)
	for i := range moved {
		moved[i].From += by
		moved[i].To += by
	}
	return moved
}

// join tells the tokens of s: old ones, fresh ones without their TAutos, and old ones. An old token has the TAuto that it had, if a significant token stands between it and the fresh ones; so the others are gone through again.
func join(s string, ahead, fresh, behind []api.Tok) []api.Tok {
	from := lastSignificant(ahead)
	to := firstSignificant(behind)
	again := slices.Concat(ahead[from:], fresh, behind[:to])
	again = slices.DeleteFunc(again, isAuto)
	l := appendEnded(slices.Clone(ahead[:from]), s, again, to < len(behind))
	return append(l, behind[to:]...)
}

// lastSignificant tells where the last significant token of l stands; 0, if there is none.
func lastSignificant(l []api.Tok) int {
	for i := len(l) - 1; i > 0; i-- {
		if isSignificant(l[i]) {
			return i
		}
	}
	return 0
}

// firstSignificant tells where the first significant token of l stands; behind its end, if there is none.
func firstSignificant(l []api.Tok) int {
	for i, t := range l {
		if isSignificant(t) {
			return i
		}
	}
	return len(l)
}

// isSignificant leaves the TAutos out: they belong to the tokens ahead of them.
func isSignificant(t api.Tok) bool { return !token.Trivia(t.Kind) && !isAuto(t) }

func isAuto(t api.Tok) bool { return t.Kind == api.TAuto }
