package parts_test

import (
	"slices"
	"testing"

	"scholiast/api"
	"scholiast/parts"
)

// of is a node with kids of these kinds, each of which begins where it stands among them.
func of(kinds ...int) api.Node {
	n := api.Node{Kind: api.NList}
	for i, kind := range kinds {
		n.Kids = append(n.Kids, api.Node{Kind: kind, From: i})
	}
	return n
}

// begins are where nodes begin.
func begins(l []api.Node) []int {
	var all []int
	for _, n := range l {
		all = append(all, n.From)
	}
	return all
}

// TestParts: parts are those kids whose kinds are no leaves', and of one that is not there an NNone comes.
func TestParts(t *testing.T) {
	for _, c := range []struct {
		n    api.Node
		want []int
	}{
		{api.Node{}, nil},
		{of(api.TComma, 199, 0, -1), nil},
		{of(api.NName), []int{0}},
		{of(api.TComma, api.NNone, api.TComma, api.NName, 300, 1), []int{1, 3, 4}},
	} {
		var all []api.Node
		for i, part := range parts.All(c.n) {
			if i != len(all) {
				t.Errorf("%v: number %d behind %d", c.n, i, len(all))
			}
			all = append(all, part)
		}
		if got := begins(all); !slices.Equal(got, c.want) {
			t.Errorf("%v: %v, want %v", c.n, got, c.want)
		}
		count := len(c.want)
		for i := range count {
			if got := parts.At(c.n, i).From; got != c.want[i] {
				t.Errorf("%v: part %d begins at %d", c.n, i, got)
			}
		}
		for _, i := range []int{-1, count, count + 1} {
			if got := parts.At(c.n, i); got.Kind != api.NNone || got.From != 0 {
				t.Errorf("%v: part %d is %v", c.n, i, got)
			}
		}
		for i := range count + 2 {
			if got := begins(slices.Collect(parts.From(c.n, i))); !slices.Equal(got, c.want[min(i, count):]) {
				t.Errorf("%v: from %d on %v", c.n, i, got)
			}
		}
		if got := begins(slices.Collect(parts.Front(c.n))); !slices.Equal(got, c.want[:max(0, count-1)]) {
			t.Errorf("%v: the front is %v", c.n, got)
		}
		if last := parts.Last(c.n); count == 0 && last.Kind != api.NNone || count > 0 && last.From != c.want[count-1] {
			t.Errorf("%v: the last one is %v", c.n, last)
		}
	}
}

// TestLeft: what ranges over parts may end early.
func TestLeft(t *testing.T) {
	n := of(api.NName, api.NName, api.NName)
	for i := range parts.All(n) {
		if i == 1 {
			break
		}
	}
	for part := range parts.From(n, 1) {
		if part.From == 1 {
			break
		}
	}
	for part := range parts.Front(n) {
		if part.From == 0 {
			break
		}
	}
}

// TestBare: parentheses are left away, as many as there are, and nothing else.
func TestBare(t *testing.T) {
	star := api.Node{Kind: api.NStar, Kids: []api.Node{{Kind: api.NParen}}}
	paren := func(n api.Node) api.Node {
		return api.Node{Kind: api.NParen, Kids: []api.Node{{Kind: api.TLparen}, n, {Kind: api.TRparen}}}
	}
	for _, n := range []api.Node{star, paren(star), paren(paren(star))} {
		if got := parts.Bare(n); got.Kind != api.NStar || len(got.Kids) != 1 {
			t.Errorf("%v: %v", n, got)
		}
	}
	if got := parts.Bare(api.Node{Kind: api.NParen}); got.Kind != api.NNone {
		t.Errorf("an empty one: %v", got)
	}
}
