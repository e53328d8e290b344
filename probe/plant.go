package probe

import (
	"slices"

	"scholiast/api"
)

// Planter gives trees their places, and puts trivia between their tokens.
type Planter struct {
	R    Choice
	L    []api.Tok // the tokens so far
	At   int       // the end of these
	here int       // the end of the last significant one
}

// token is one more token, as a leaf.
func (p *Planter) token(kind, width int) api.Node {
	t := api.Tok{Kind: kind, From: p.At, To: p.At + width}
	p.L = append(p.L, t)
	p.At = t.To
	return api.Node{Kind: kind, From: t.From, To: t.To}
}

// Trivia are some tokens, as leaves.
func (p *Planter) Trivia() []api.Node {
	var l []api.Node
	for p.R.Intn(3) == 0 {
		kinds := []int{api.TSpace, api.TFeed, api.TComment, api.TBlock, api.TBad, 0, 9, -3}
		l = append(l, p.token(kinds[p.R.Intn(len(kinds))], p.R.Intn(3)))
	}
	return l
}

// Plant is the tree with its places; trivia ahead of it have been told already.
func (p *Planter) Plant(n api.Node) api.Node {
	if n.Kind == api.NNone || n.Kind == api.NEmpty {
		return api.Node{Kind: n.Kind, From: p.here, To: p.here}
	}
	if n.Kind < api.NNone {
		n = p.token(n.Kind, p.R.Intn(3))
		p.here = n.To
		return n
	}
	var kids []api.Node
	for i, kid := range n.Kids {
		if i > 0 && !beginsBare(kid) {
			kids = append(kids, p.Trivia()...)
		}
		kids = append(kids, p.Plant(kid))
	}
	return api.Node{Kind: n.Kind, From: kids[0].From, To: kids[len(kids)-1].To, Kids: kids}
}

// beginsBare says whether a node begins with one without bytes, behind which the trivia ahead of its first token stand.
func beginsBare(n api.Node) bool {
	return n.Kind == api.NNone || n.Kind == api.NEmpty || len(n.Kids) > 0 && beginsBare(n.Kids[0])
}

// Spoilt are tokens some of which are left out, or stand in other places, or are others; one behind the other from 0 on.
func Spoilt(r Choice, l []api.Tok) []api.Tok {
	l = slices.Clone(l)
	for range r.Intn(4) {
		if len(l) == 0 {
			break
		}
		i, j := r.Intn(len(l)), r.Intn(len(l))
		switch r.Intn(4) {
		case 0:
			l = slices.Delete(l, i, i+1)
		case 1:
			l = slices.Insert(l, i, l[j])
		case 2:
			l[i], l[j] = l[j], l[i]
		case 3:
			l[i].Kind = r.Intn(100)
		}
	}
	at := 0
	for i := range l {
		l[i].From, l[i].To = at, at+r.Intn(3)
		at = l[i].To
	}
	return l
}

// Apart are tokens of the same kinds, each of which has bytes.
func Apart(l []api.Tok) []api.Tok {
	l = slices.Clone(l)
	for i := range l {
		l[i].From, l[i].To = 2*i, 2*i+2
	}
	return l
}
