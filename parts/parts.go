// Package parts looks at the parts of nodes where they stand: green.Parts would copy all that stands below them.
package parts

import (
	"iter"
	"slices"

	"scholiast/api"
)

// All are a node's parts, numbered from 0 on.
func All(n api.Node) iter.Seq2[int, api.Node] {
	return func(yield func(int, api.Node) bool) {
		count := 0
		for _, kid := range n.Kids {
			if kid.Kind < api.NNone {
				continue
			}
			if !yield(count, kid) {
				return
			}
			count++
		}
	}
}

// At is a node's part of that number, or one that is not there.
func At(n api.Node, number int) api.Node {
	for i, p := range All(n) {
		if i == number {
			return p
		}
	}
	return api.Node{Kind: api.NNone}
}

// From are a node's parts from that number on.
func From(n api.Node, number int) iter.Seq[api.Node] {
	return func(yield func(api.Node) bool) {
		for i, p := range All(n) {
			if i >= number && !yield(p) {
				return
			}
		}
	}
}

// Last is a node's last part, or one that is not there.
func Last(n api.Node) api.Node {
	for _, kid := range slices.Backward(n.Kids) {
		if kid.Kind >= api.NNone {
			return kid
		}
	}
	return api.Node{Kind: api.NNone}
}

// Front are a node's parts but the last one.
func Front(n api.Node) iter.Seq[api.Node] {
	return func(yield func(api.Node) bool) {
		var held api.Node
		for i, p := range All(n) {
			if i > 0 && !yield(held) {
				return
			}
			held = p
		}
	}
}

// Bare is a node without the parentheses around it.
func Bare(n api.Node) api.Node {
	for n.Kind == api.NParen {
		n = At(n, 0)
	}
	return n
}
