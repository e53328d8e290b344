package file

import (
	"scholiast/api"
	"scholiast/decl"
	"scholiast/green"
)

// form is what a region's node hangs on, but for its place: the bytes and the kinds of its tokens. Where a token ends need not stand in it: the same bytes are cut into the same tokens, but for a byte order mark, whose kind tells which of two it is.
type form struct {
	bytes string
	kinds string // of each token one byte
}

// formOf tells the form of the region that tokens of s are.
func formOf(s string, l []api.Tok) form {
	kinds := make([]byte, len(l))
	for i, t := range l {
		kinds[i] = byte(t.Kind)
	}
	return form{bytes: s[l[0].From:l[len(l)-1].To], kinds: string(kinds)}
}

// region is a region that was read.
type region struct {
	node  api.Node // an NRegion
	fault api.Diag // none, if it could be read
}

// parse reads a region.
func parse(l []api.Tok) region {
	n, d, _ := decl.Region(l)
	return region{node: n, fault: d}
}

// moved tells a region like r that begins at a place. It shares no memory with r.
func (r region) moved(at int) region {
	by := at - r.node.From
	r.node = green.Shift(r.node, by)
	if r.fault.Code != 0 {
		r.fault.From += by
		r.fault.To += by
	}
	return r
}

// what tells what a region is: its one kid that is no leaf. There is one, as each region has a significant token.
func (r region) what() api.Node {
	for _, kid := range r.node.Kids {
		if kid.Kind >= api.NNone {
			return kid
		}
	}
	return api.Node{}
}
