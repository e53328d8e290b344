package expr

import (
	"slices"

	"scholiast/api"
)

// Reader reads tokens, and builds nodes of them. Once it has failed it neither reads nor builds anything any more.
type Reader struct {
	tokens      []api.Tok
	significant []int // where the significant tokens stand among all
	read        int   // how many tokens are read
	taken       int   // how many of these are significant
	row         []built
	levels      int
	failure     api.Diag
	failed      bool
}

// built is a node of the row. How high it is does not hang on its kind: Close makes nodes of any kind.
type built struct {
	node   api.Node
	height int
}

// NewReader makes a reader of l that has read nothing.
func NewReader(l []api.Tok) *Reader {
	r := &Reader{tokens: slices.Clone(l)}
	for i, t := range l {
		if !isTrivia(t.Kind) {
			r.significant = append(r.significant, i)
		}
	}
	return r
}

// isTrivia goes by the numbers, so that those of no kind have a side, too.
func isTrivia(kind int) bool { return kind < api.TIdent }

// Kind tells the kind of the next significant token; 0, if there is none, or the reader has failed.
func (r *Reader) Kind() int { return r.Ahead(0) }

// Ahead tells the kind of the n-th significant token behind the next one; 0, if there is none, or the reader has failed.
func (r *Reader) Ahead(n int) int {
	if r.failed || n < 0 || n >= len(r.significant)-r.taken {
		return 0
	}
	return r.tokens[r.significant[r.taken+n]].Kind
}

// Take reads the next significant token, and the trivia ahead of it.
func (r *Reader) Take() {
	if r.Kind() == 0 {
		return
	}
	r.readTo(r.significant[r.taken] + 1)
	r.taken++
}

// readTo reads the tokens up to a place among them.
func (r *Reader) readTo(end int) {
	for _, t := range r.tokens[r.read:end] {
		r.row = append(r.row, built{node: api.Node{Kind: t.Kind, From: t.From, To: t.To}})
	}
	r.read = end
}

// Expect takes a token of a kind, and says whether it came; if it does not, the reader fails.
func (r *Reader) Expect(kind int) bool {
	if kind == 0 || r.Kind() != kind {
		r.Fail(api.DSyntax)
		return false
	}
	r.Take()
	return true
}

// None puts behind the row what is not there.
func (r *Reader) None() {
	if !r.failed {
		r.row = append(r.row, none(r.here()))
	}
}

// none is what is not there, at a place of the text.
func none(at int) built {
	return built{node: api.Node{Kind: api.NNone, From: at, To: at}}
}

// here is the place of the text at which nodes without bytes stand.
func (r *Reader) here() int {
	switch {
	case r.taken > 0:
		return r.tokens[r.significant[r.taken-1]].To
	case len(r.significant) > 0:
		return r.tokens[r.significant[0]].From
	case len(r.tokens) > 0:
		return r.tokens[0].From
	}
	return 0
}

// Mark tells how many nodes the row has.
func (r *Reader) Mark() int { return len(r.row) }

// Close makes one node of the row's nodes from a mark on.
func (r *Reader) Close(mark, kind int) {
	if r.failed {
		return
	}
	from := r.within(mark)
	for from < len(r.row) && isTrivia(r.row[from].node.Kind) {
		from++ // no node begins with trivia: they are its parent's
	}
	closed := r.over(r.row[from:], kind)
	r.row = append(r.row[:from], closed)
	if closed.height > api.MaxDepth {
		r.Fail(api.DDepth)
	}
}

// over is a node of a kind that has these kids.
func (r *Reader) over(kids []built, kind int) built {
	at := r.here()
	b := built{node: api.Node{Kind: kind, From: at, To: at}, height: 1}
	for i, kid := range kids {
		if i == 0 {
			b.node.From = kid.node.From
		}
		b.node.To = kid.node.To
		b.node.Kids = append(b.node.Kids, kid.node)
		b.height = max(b.height, kid.height+1)
	}
	return b
}

// within is the mark of the row that a number counts as.
func (r *Reader) within(mark int) int { return min(max(mark, 0), r.Mark()) }

// Gap puts what is not there ahead of the row's nodes from a mark on.
func (r *Reader) Gap(mark int) {
	if !r.failed {
		mark = r.within(mark)
		r.row = slices.Insert(r.row, mark, none(r.gapAt(mark)))
	}
}

// gapAt is the place of the text at which a gap at a mark of the row stands.
func (r *Reader) gapAt(mark int) int {
	for _, b := range slices.Backward(r.row[:mark]) {
		if !isTrivia(b.node.Kind) {
			return b.node.To
		}
	}
	for _, b := range r.row[mark:] {
		if !isTrivia(b.node.Kind) {
			return b.node.From
		}
	}
	return r.here()
}

// Last tells the kind of the row's last node; 0, if there is none, or the reader has failed.
func (r *Reader) Last() int {
	if r.failed || len(r.row) == 0 {
		return 0
	}
	return r.row[len(r.row)-1].node.Kind
}

// Down opens a level, and says whether it could; if too many are open, the reader fails.
func (r *Reader) Down() bool {
	if r.levels >= api.MaxDepth {
		r.Fail(api.DDepth)
	}
	if r.failed {
		return false
	}
	r.levels++
	return true
}

// Up closes a level, if one is open.
func (r *Reader) Up() { r.levels = max(r.levels-1, 0) }

// Fail has the reader fail at the next significant token, if it has not yet.
func (r *Reader) Fail(code int) {
	if r.failed {
		return
	}
	r.failed = true
	r.failure = api.Diag{Code: code, From: r.here(), To: r.here()}
	if r.taken < len(r.significant) {
		next := r.tokens[r.significant[r.taken]]
		r.failure.From, r.failure.To = next.From, next.To
	}
}

// Failed tells what the reader has failed by, and whether it has.
func (r *Reader) Failed() (api.Diag, bool) { return r.failure, r.failed }

// Done tells the row, behind which the trivia at the end come; if the reader has failed, or a significant token is left, what it has failed by.
func (r *Reader) Done() ([]api.Node, api.Diag, bool) {
	if r.Kind() != 0 {
		r.Fail(api.DSyntax)
	}
	if r.failed {
		return nil, r.failure, false
	}
	r.readTo(len(r.tokens))
	var row []api.Node
	for _, b := range r.row {
		row = append(row, copied(b.node))
	}
	return row, api.Diag{}, true
}

// copied is a node in memory of its own: the row goes on to be read behind Done.
func copied(n api.Node) api.Node {
	n.Kids = slices.Clone(n.Kids)
	for i := range n.Kids {
		n.Kids[i] = copied(n.Kids[i])
	}
	return n
}
