package outline

import (
	"iter"

	"scholiast/api"
)

// contents are what a file's regions are, in their order.
func contents(file api.Node) iter.Seq[api.Node] {
	return func(yield func(api.Node) bool) {
		for _, kid := range file.Kids {
			if kid.Kind == api.NRegion && !yield(part(kid, 0)) {
				return
			}
		}
	}
}

// parts are a node's parts, numbered from 0 on. They are just looked at: green.Parts would copy all that stands below them.
func parts(n api.Node) iter.Seq2[int, api.Node] {
	return func(yield func(int, api.Node) bool) {
		count := 0
		for _, kid := range n.Kids {
			if kid.Kind < api.NNone {
				continue
			}
			if !yield(count, kid) {
				return
			}
			count++
		}
	}
}

// part is a node's part of that number, or one that is not there.
func part(n api.Node, number int) api.Node {
	for i, p := range parts(n) {
		if i == number {
			return p
		}
	}
	return api.Node{Kind: api.NNone}
}

// lastPart is a node's last part, or one that is not there.
func lastPart(n api.Node) api.Node {
	last := api.Node{Kind: api.NNone}
	for _, p := range parts(n) {
		last = p
	}
	return last
}
