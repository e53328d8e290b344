package green

import (
	"math"
	"strings"

	"scholiast/api"
)

// Pool has nodes without places, each once. Objects are made by New.
type Pool struct {
	numbers map[form]int // of all nodes
	nodes   []node       // by their numbers
}

// node is a node of a pool.
type node struct {
	form
	width int
}

// form is what a node is without its place: nodes are like just if their forms are the same, as what is below them has one number each.
type form struct {
	kind int
	text string // a leaf's bytes; empty of all others
	kids string // the numbers of its kids, packed
}

// New makes a pool without nodes.
func New() *Pool { return &Pool{numbers: map[form]int{}} }

// Len tells how many nodes the pool has.
func (p *Pool) Len() int { return len(p.nodes) }

// Put sees to it that a tree that fits s, and all below it, is in the pool, and tells its number.
func (p *Pool) Put(s string, n api.Node) (int, api.Errno) {
	if e := Check(s, n); e != api.OK {
		return 0, e
	}
	return p.put(s, n), api.OK
}

// put puts a tree into the pool that fits s.
func (p *Pool) put(s string, n api.Node) int {
	f := form{kind: n.Kind, kids: p.putAll(s, n.Kids)}
	if isLeaf(n) {
		f.text = s[n.From:n.To]
	}
	id, ok := p.numbers[f]
	if !ok {
		// A piece of s itself would keep all of s.
		f.text = strings.Clone(f.text)
		id = len(p.nodes)
		p.numbers[f] = id
		p.nodes = append(p.nodes, node{form: f, width: n.To - n.From})
	}
	return id
}

// putAll puts trees into the pool, one behind the other, and tells their numbers, packed.
func (p *Pool) putAll(s string, l []api.Node) string {
	packed := make([]byte, 0, idWidth*len(l))
	for _, n := range l {
		packed = appendID(packed, p.put(s, n))
	}
	return string(packed)
}

// has says whether there is a node of that number.
func (p *Pool) has(id int) bool { return 0 <= id && id < len(p.nodes) }

// Kind tells a node's kind.
func (p *Pool) Kind(id int) (int, api.Errno) {
	if !p.has(id) {
		return 0, api.ErrNone
	}
	return p.nodes[id].kind, api.OK
}

// Width tells how many bytes a node has.
func (p *Pool) Width(id int) (int, api.Errno) {
	if !p.has(id) {
		return 0, api.ErrNone
	}
	return p.nodes[id].width, api.OK
}

// Kids tells the numbers of a node's kids.
func (p *Pool) Kids(id int) ([]int, api.Errno) {
	if !p.has(id) {
		return nil, api.ErrNone
	}
	return unpacked(p.nodes[id].kids), api.OK
}

// Text tells a node's bytes.
func (p *Pool) Text(id int) (string, api.Errno) {
	if !p.has(id) {
		return "", api.ErrNone
	}
	var b strings.Builder
	b.Grow(p.nodes[id].width)
	p.write(&b, id)
	return b.String(), api.OK
}

// write writes a node's bytes behind those of b.
func (p *Pool) write(b *strings.Builder, id int) {
	n := p.nodes[id]
	b.WriteString(n.text)
	for _, kid := range unpacked(n.kids) {
		p.write(b, kid)
	}
}

// Node tells a node as a tree that begins at a place.
func (p *Pool) Node(id, at int) (api.Node, api.Errno) {
	switch {
	case !p.has(id):
		return api.Node{}, api.ErrNone
	case at < 0 || at > math.MaxInt32:
		return api.Node{}, api.ErrArg
	}
	return p.placed(id, at), api.OK
}

// placed is a node as a tree that begins at a place.
func (p *Pool) placed(id, at int) api.Node {
	n := p.nodes[id]
	placed := api.Node{Kind: n.kind, From: at, To: at + n.width}
	for _, kid := range unpacked(n.kids) {
		placed.Kids = append(placed.Kids, p.placed(kid, at))
		at += p.nodes[kid].width
	}
	return placed
}
