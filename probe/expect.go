package probe

import (
	"slices"
	"strings"

	"scholiast/api"
	"scholiast/expr"
)

// Test is what a test tells of faults: a *testing.T.
type Test interface {
	Helper()
	Errorf(format string, args ...any)
	Fatalf(format string, args ...any)
}

// Reads is a text, and the node that it is, as Show writes it down.
type Reads = [2]string

// Diags makes a list of diagnostics of groups of three numbers: code, from, to.
func Diags(n ...int) []api.Diag {
	var l []api.Diag
	for i := 0; i+2 < len(n); i += 3 {
		l = append(l, api.Diag{Code: n[i], From: n[i+1], To: n[i+2]})
	}
	return l
}

// Spell writes down the node that a procedure reads of a text, all of it; or tells the diagnostic.
func Spell(t Test, s string, read func(r *expr.Reader)) (string, api.Diag) {
	t.Helper()
	l := Tokens(s)
	r := expr.NewReader(l)
	read(r)
	row, d, ok := r.Done()
	if failed, is := r.Failed(); failed != d || is == ok {
		t.Fatalf("%q: Failed says %v, %v, and Done %v, %v", s, failed, is, d, ok)
	}
	if !ok {
		if len(row) > 0 {
			t.Fatalf("%q: %v beside %v", s, row, d)
		}
		return "", d
	}
	ExpectLaws(t, l, row)
	var all []string
	for _, n := range row {
		if !IsTrivia(n.Kind) {
			all = append(all, Show(s, n))
		}
	}
	return strings.Join(all, " "), d
}

// ExpectReads holds what a procedure reads of texts.
func ExpectReads(t Test, read func(r *expr.Reader), l []Reads) {
	t.Helper()
	for _, c := range l {
		if got, d := Spell(t, c[0], read); got != c[1] || d != (api.Diag{}) {
			t.Errorf("%q:\n got %s, %v\nwant %s", c[0], got, d, c[1])
		}
	}
}

// ExpectHolds holds that a procedure reads texts.
func ExpectHolds(t Test, read func(r *expr.Reader), l ...string) {
	t.Helper()
	for _, s := range l {
		if got, d := Spell(t, s, read); got == "" || d != (api.Diag{}) {
			t.Errorf("%q: %v", s, d)
		}
	}
}

// ExpectFails holds what a procedure, and then Done, tell of texts that fail with a code at the token behind an @, or at the end.
func ExpectFails(t Test, read func(r *expr.Reader), code int, l ...string) {
	t.Helper()
	for _, marked := range l {
		s, want := Marked(t, marked, code)
		if got, d := Spell(t, s, read); d != want {
			t.Errorf("%q: %s, %v, want %v", s, got, d, want)
		}
	}
}

// Around is a middle with texts ahead of it and behind it, so many times each.
func Around(n int, ahead, middle, behind string) string {
	return strings.Repeat(ahead, n) + middle + strings.Repeat(behind, n)
}

// At reads a part where so many levels are open already.
func At(levels int, read func(r *expr.Reader)) func(r *expr.Reader) {
	return func(r *expr.Reader) {
		for range levels {
			r.Down()
		}
		read(r)
	}
}

// Marked takes an @ out of a text, and tells a diagnostic of the token behind it; or, if none begins there, one without bytes.
func Marked(t Test, marked string, code int) (string, api.Diag) {
	t.Helper()
	ahead, behind, ok := strings.Cut(marked, "@")
	if !ok {
		t.Fatalf("%q has no mark", marked)
	}
	s := ahead + behind
	d := api.Diag{Code: code, From: len(ahead), To: len(ahead)}
	for _, tok := range Tokens(s) {
		if tok.From == len(ahead) && !IsTrivia(tok.Kind) {
			d.To = tok.To
		}
	}
	return s, d
}

// ExpectLaws holds what a reader's Done answers of tokens that lie one behind the other against what DOC.md says of trees.
func ExpectLaws(t Test, l []api.Tok, row []api.Node) {
	t.Helper()
	if !slices.Equal(Leaves(row), l) {
		t.Fatalf("%v: the leaves of %v are others", l, row)
	}
	here := 0
	for _, n := range row {
		ok := false
		if here, ok = lies(n, here); !ok {
			t.Fatalf("%v: %v of %v does not lie as it is to", l, n, row)
		}
		if Height(n) > api.MaxDepth {
			t.Fatalf("%v: a node of the height %d", l, Height(n))
		}
	}
}

// lies says whether a node's kids lie one behind the other from its beginning to its end, and neither the first one nor the last one is trivia; and so below it. Here is the end of the last significant token ahead of it, at which what has no bytes stands; the answer is that of the last one in it.
func lies(n api.Node, here int) (int, bool) {
	switch {
	case n.Kind == api.NNone || n.Kind == api.NEmpty:
		return here, n.From == here && n.To == here && len(n.Kids) == 0
	case IsTrivia(n.Kind):
		return here, len(n.Kids) == 0
	case n.Kind < api.NNone:
		return n.To, len(n.Kids) == 0
	}
	if len(n.Kids) == 0 || IsTrivia(n.Kids[0].Kind) || IsTrivia(n.Kids[len(n.Kids)-1].Kind) {
		return 0, false
	}
	at := n.From
	for _, kid := range n.Kids {
		end, ok := lies(kid, here)
		if !ok || kid.From != at {
			return 0, false
		}
		here, at = end, kid.To
	}
	return here, at == n.To
}

// ExpectPlace holds that a diagnostic is of syntax or of depth, and of a significant token of l, or of the place behind the last one; of no such token, of where l begins.
func ExpectPlace(t Test, l []api.Tok, d api.Diag) {
	t.Helper()
	if d.Code != api.DSyntax && d.Code != api.DDepth {
		t.Fatalf("%v: %v", l, d)
	}
	end := 0
	if all := Significant(l); len(all) > 0 {
		end = all[len(all)-1].To
	} else if len(l) > 0 {
		end = l[0].From
	}
	isToken := slices.ContainsFunc(Significant(l), func(t api.Tok) bool { return t.From == d.From && t.To == d.To })
	if !isToken && (d.From != end || d.To != end) {
		t.Fatalf("%v: %v is of no token", l, d)
	}
}

// IsGuard says whether a diagnostic's piece ends as a guard does.
func IsGuard(l []api.Tok, d api.Diag) bool {
	var kinds []int
	for _, tok := range Significant(l) {
		if d.From <= tok.From && tok.To <= d.To {
			kinds = append(kinds, tok.Kind)
		}
	}
	return len(kinds) > 4 && slices.Equal(kinds[len(kinds)-4:], []int{api.TPeriod, api.TLparen, api.TType, api.TRparen})
}
