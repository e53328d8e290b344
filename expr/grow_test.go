package expr_test

import (
	"math/rand"
	"slices"
	"testing"

	"scholiast/api"
	"scholiast/expr"
	"scholiast/token"
)

// grower makes trees without places, as the chapter's words allow them. What it makes is told by kinds alone.
type grower struct{ r *rand.Rand }

func node(kind int, kids ...api.Node) api.Node { return api.Node{Kind: kind, Kids: kids} }

func leaf(kind int) api.Node { return api.Node{Kind: kind} }

var (
	none = leaf(api.NNone)
	name = node(api.NName, leaf(api.TIdent))
)

// maybe holds once in n times.
func (g grower) maybe(n int) bool { return g.r.Intn(n) == 0 }

// pick is one of these numbers.
func (g grower) pick(l ...int) int { return l[g.r.Intn(len(l))] }

// wrap puts things between two leaves.
func wrap(open int, inside []api.Node, closing int) []api.Node {
	return append(append([]api.Node{leaf(open)}, inside...), leaf(closing))
}

// apart are some things, by at least so many, with a leaf of one of these kinds between; behind the last one, too, at times, if it may end so.
func (g grower) apart(least int, ends bool, by []int, one func() api.Node) []api.Node {
	var l []api.Node
	for range least + g.pick(0, 0, 1, 1, 2, 3) {
		if len(l) > 0 {
			l = append(l, leaf(g.pick(by...)))
		}
		l = append(l, one())
	}
	if ends && len(l) > 0 && g.maybe(3) {
		l = append(l, leaf(g.pick(by...)))
	}
	return l
}

var commas, semicolons = []int{api.TComma}, []int{api.TSemi, api.TAuto}

// x is an expression that binds so strongly at least.
func (g grower) x(deep, strength int, head bool) api.Node {
	op := g.pick(api.TLor, api.TLand, api.TEql, api.TNeq, api.TLss, api.TGtr, api.TLeq, api.TGeq, api.TAdd, api.TSub, api.TOr, api.TXor, api.TMul, api.TQuo, api.TRem, api.TShl, api.TShr, api.TAnd, api.TAndNot)
	q := token.Precedence(op)
	if deep <= 0 || q < strength || g.maybe(2) {
		return g.unary(deep, head)
	}
	return node(api.NBinary, g.x(deep-1, q, head), leaf(op), g.x(deep-1, q+1, head))
}

func (g grower) unary(deep int, head bool) api.Node {
	switch {
	case deep <= 0 || !g.maybe(4):
		return g.primary(deep, head)
	case g.maybe(2):
		return node(api.NStar, leaf(api.TMul), g.unary(deep-1, head))
	}
	return node(api.NUnary, leaf(g.pick(api.TAdd, api.TSub, api.TNot, api.TXor, api.TAnd)), g.unary(deep-1, head))
}

func (g grower) primary(deep int, head bool) api.Node {
	n := g.operand(deep)
	for deep > 0 && g.maybe(2) {
		n = g.behind(n, deep-1, head)
	}
	return n
}

func (g grower) operand(deep int) api.Node {
	if deep > 0 {
		switch g.r.Intn(9) {
		case 0:
			return node(api.NParen, leaf(api.TLparen), g.argument(deep-1), leaf(api.TRparen))
		case 1:
			return node(api.NFn, leaf(api.TFunc), g.sig(deep-1), g.flat())
		case 2:
			return node(api.NComp, append([]api.Node{g.sequence(deep - 1)}, g.values(deep-1)...)...)
		case 3:
			if n := g.sequence(deep - 1); !open(n) {
				return node(api.NCall, append([]api.Node{n}, g.call(deep-1)...)...)
			}
		}
	}
	if g.maybe(3) {
		return node(api.NLit, leaf(g.pick(api.TInt, api.TRune, api.TString, api.TRaw)))
	}
	return name
}

// argument is what stands alone within brackets: an expression, or a type.
func (g grower) argument(deep int) api.Node {
	if g.maybe(4) {
		if n := g.typ(deep); n.Kind == api.NFunc {
			return n
		}
		return g.sequence(deep)
	}
	return g.x(deep, 1, false)
}

// open says whether a parenthesis behind a type would be its results'.
func open(n api.Node) bool {
	for len(n.Kids) > 0 {
		n = n.Kids[len(n.Kids)-1]
	}
	return n.Kind == api.NNone
}

// behind is a node with something behind it.
func (g grower) behind(n api.Node, deep int, head bool) api.Node {
	with := func(kind int, kids ...api.Node) api.Node { return node(kind, append([]api.Node{n}, kids...)...) }
	switch g.r.Intn(8) {
	case 0:
		return with(api.NAssert, leaf(api.TPeriod), leaf(api.TLparen), g.typ(deep), leaf(api.TRparen))
	case 1:
		return with(api.NGuard, leaf(api.TPeriod), leaf(api.TLparen), leaf(api.TType), leaf(api.TRparen))
	case 2:
		inside := append([]api.Node{g.argument(deep)}, g.more(deep, g.argument)...)
		return with(api.NIndex, wrap(api.TLbrack, inside, api.TRbrack)...)
	case 3:
		return with(api.NCut, wrap(api.TLbrack, g.cut(deep), api.TRbrack)...)
	case 4:
		return with(api.NCall, g.call(deep)...)
	case 5:
		if takes(n) && !head {
			return with(api.NComp, g.values(deep)...)
		}
	}
	return with(api.NSel, leaf(api.TPeriod), name)
}

// takes says whether a node is a name, one of a package, or one of these with arguments.
func takes(n api.Node) bool {
	if n.Kind == api.NIndex {
		n = n.Kids[0]
	}
	return n.Kind == api.NName || n.Kind == api.NSel && n.Kids[0].Kind == api.NName
}

// more is what may stand behind the first thing in brackets: others, and a comma at the end.
func (g grower) more(deep int, one func(deep int) api.Node) []api.Node {
	var l []api.Node
	for g.maybe(2) {
		l = append(l, leaf(api.TComma), one(deep))
	}
	if g.maybe(3) {
		l = append(l, leaf(api.TComma))
	}
	return l
}

func (g grower) cut(deep int) []api.Node {
	bound := func() api.Node {
		if g.maybe(2) {
			return none
		}
		return g.argument(deep)
	}
	l := []api.Node{bound(), leaf(api.TColon), bound()}
	if l[2].Kind != api.NNone && g.maybe(2) {
		l = append(l, leaf(api.TColon), g.argument(deep))
	}
	return l
}

func (g grower) call(deep int) []api.Node {
	l := g.apart(0, false, commas, func() api.Node { return g.argument(deep) })
	if len(l) > 0 && g.maybe(3) {
		l = append(l, leaf(api.TDots))
	}
	if len(l) > 0 && g.maybe(3) {
		l = append(l, leaf(api.TComma))
	}
	return wrap(api.TLparen, l, api.TRparen)
}

func (g grower) values(deep int) []api.Node {
	value := func() api.Node {
		if deep > 0 && g.maybe(3) {
			return node(api.NVals, g.values(deep-1)...)
		}
		return g.argument(deep)
	}
	return wrap(api.TLbrace, g.apart(0, true, commas, func() api.Node {
		if g.maybe(3) {
			return node(api.NKey, value(), leaf(api.TColon), value())
		}
		return value()
	}), api.TRbrace)
}

// flat is any tokens in braces that have their partners.
func (g grower) flat() api.Node {
	l := []api.Node{leaf(api.TLbrace)}
	for deep := 1; deep > 0; {
		kind := g.pick(api.TLbrace, api.TRbrace, api.TRbrace, api.TLparen, api.TRbrack, api.TAuto, api.TIdent, api.TFor)
		if kind == api.TLbrace {
			deep++
		}
		if kind == api.TRbrace {
			deep--
		}
		l = append(l, leaf(kind))
	}
	return node(api.NFlat, l...)
}

// sequence is a type with which an operand may begin, and behind which values may stand.
func (g grower) sequence(deep int) api.Node {
	switch g.r.Intn(5) {
	case 0:
		return node(api.NArray, leaf(api.TLbrack), node(api.NRest, leaf(api.TDots)), leaf(api.TRbrack), g.typ(deep-1))
	case 1:
		return node(api.NArray, leaf(api.TLbrack), g.x(deep-1, 1, false), leaf(api.TRbrack), g.typ(deep-1))
	case 2:
		return node(api.NMap, leaf(api.TMap), leaf(api.TLbrack), g.typ(deep-1), leaf(api.TRbrack), g.typ(deep-1))
	case 3:
		fields := g.apart(0, true, semicolons, func() api.Node { return g.field(deep - 1) })
		return node(api.NStruct, append([]api.Node{leaf(api.TStruct)}, wrap(api.TLbrace, fields, api.TRbrace)...)...)
	}
	return node(api.NSlice, leaf(api.TLbrack), leaf(api.TRbrack), g.typ(deep-1))
}

func (g grower) qualified() api.Node {
	if g.maybe(2) {
		return node(api.NSel, name, leaf(api.TPeriod), name)
	}
	return name
}

func (g grower) typ(deep int) api.Node {
	if deep <= 0 {
		return g.qualified()
	}
	switch g.r.Intn(8) {
	case 0:
		return g.qualified()
	case 1:
		inside := append([]api.Node{g.typ(deep - 1)}, g.more(deep-1, g.typ)...)
		return node(api.NIndex, append([]api.Node{g.qualified()}, wrap(api.TLbrack, inside, api.TRbrack)...)...)
	case 2:
		return node(api.NParen, leaf(api.TLparen), g.typ(deep-1), leaf(api.TRparen))
	case 3:
		return node(api.NStar, leaf(api.TMul), g.typ(deep-1))
	case 4:
		return node(api.NFunc, leaf(api.TFunc), g.sig(deep-1))
	case 5:
		elements := g.apart(0, true, semicolons, func() api.Node { return g.element(deep - 1) })
		return node(api.NIface, append([]api.Node{leaf(api.TInterface)}, wrap(api.TLbrace, elements, api.TRbrace)...)...)
	}
	return g.sequence(deep)
}

func (g grower) field(deep int) api.Node {
	switch g.r.Intn(4) {
	case 0:
		return node(api.NEmbed, g.qualified())
	case 1:
		return node(api.NEmbed, node(api.NStar, leaf(api.TMul), g.qualified()))
	}
	return node(api.NField, append(g.names(), g.typ(deep))...)
}

func (g grower) names() []api.Node {
	return g.apart(1, false, commas, func() api.Node { return name })
}

func (g grower) element(deep int) api.Node {
	if g.maybe(2) {
		return node(api.NMethod, name, g.sig(deep))
	}
	return node(api.NUnion, g.terms(deep)...)
}

func (g grower) terms(deep int) []api.Node {
	return g.apart(1, false, []int{api.TOr}, func() api.Node {
		if g.maybe(2) {
			return node(api.NTilde, leaf(api.TTilde), g.typ(deep))
		}
		return g.typ(deep)
	})
}

func (g grower) sig(deep int) api.Node {
	switch g.r.Intn(3) {
	case 0:
		return node(api.NSig, g.params(deep), none)
	case 1:
		return node(api.NSig, g.params(deep), g.params(deep))
	}
	result := g.typ(deep)
	if result.Kind == api.NParen {
		result = node(api.NStar, leaf(api.TMul), result)
	}
	return node(api.NSig, g.params(deep), result)
}

func (g grower) params(deep int) api.Node {
	if deep <= 0 && g.maybe(2) {
		return node(api.NParams, leaf(api.TLparen), leaf(api.TRparen))
	}
	typ := func() api.Node {
		if g.maybe(4) {
			return node(api.NDots, leaf(api.TDots), g.typ(deep-1))
		}
		return g.typ(deep - 1)
	}
	one := func() api.Node { return node(api.NParam, typ()) }
	if g.maybe(2) {
		one = func() api.Node { return node(api.NParam, append(g.names(), typ())...) }
	}
	return node(api.NParams, wrap(api.TLparen, g.apart(0, true, commas, one), api.TRparen)...)
}

func (g grower) typeParams(deep int) api.Node {
	return node(api.NTParams, wrap(api.TLbrack, g.apart(1, true, commas, func() api.Node {
		constraint := g.terms(deep)
		if len(constraint) > 1 || constraint[0].Kind == api.NTilde {
			constraint = []api.Node{node(api.NUnion, constraint...)}
		}
		return node(api.NParam, append(g.names(), constraint...)...)
	}), api.TRbrack)...)
}

// planter gives trees their places, and puts trivia between their tokens.
type planter struct {
	r    *rand.Rand
	l    []api.Tok
	at   int // the end of the tokens so far
	here int // the end of the last significant one
}

// token is one more token, as a leaf.
func (p *planter) token(kind, width int) api.Node {
	t := api.Tok{Kind: kind, From: p.at, To: p.at + width}
	p.l = append(p.l, t)
	p.at = t.To
	return api.Node{Kind: kind, From: t.From, To: t.To}
}

// trivia are some tokens, as leaves.
func (p *planter) trivia() []api.Node {
	var l []api.Node
	for p.r.Intn(3) == 0 {
		kinds := []int{api.TSpace, api.TFeed, api.TComment, api.TBlock, api.TBad, 0, 9, -3}
		l = append(l, p.token(kinds[p.r.Intn(len(kinds))], p.r.Intn(3)))
	}
	return l
}

// plant is the tree with its places; trivia ahead of it have been told already.
func (p *planter) plant(n api.Node) api.Node {
	if n.Kind == api.NNone {
		return api.Node{Kind: n.Kind, From: p.here, To: p.here}
	}
	if n.Kind < api.NNone {
		n = p.token(n.Kind, p.r.Intn(3))
		p.here = n.To
		return n
	}
	var kids []api.Node
	for i, kid := range n.Kids {
		if i > 0 && kid.Kind != api.NNone {
			kids = append(kids, p.trivia()...)
		}
		kids = append(kids, p.plant(kid))
	}
	return api.Node{Kind: n.Kind, From: kids[0].From, To: kids[len(kids)-1].To, Kids: kids}
}

// grown is a procedure, and a tree that it is to read.
type grown struct {
	read procedure
	n    api.Node
}

// part is one of this layer's parts.
func (g grower) part(deep int) grown {
	switch g.r.Intn(8) {
	case 0:
		return grown{(*expr.Reader).Type, g.typ(deep)}
	case 1:
		return grown{(*expr.Reader).Sig, g.sig(deep)}
	case 2:
		return grown{(*expr.Reader).Params, g.params(deep)}
	case 3:
		return grown{(*expr.Reader).TParams, g.typeParams(deep)}
	case 4:
		return grown{head, g.x(deep, 1, true)}
	case 5:
		list := g.apart(1, false, commas, func() api.Node { return g.x(deep, 1, false) })
		return grown{func(r *expr.Reader) { r.List(false) }, node(api.NList, list...)}
	}
	return grown{inside, g.x(deep, 1, false)}
}

// TestGrown: P5.7 to P5.12, and P5.14, trees of all kinds of nodes, their tokens with trivia between: what is read is the tree.
func TestGrown(t *testing.T) {
	r := rand.New(rand.NewSource(6))
	met := map[int]int{}
	for range 60000 {
		c := grower{r}.part(r.Intn(5))
		p := &planter{r: r, at: r.Intn(2)}
		want := p.trivia()
		want = append(want, p.plant(c.n))
		want = append(want, p.trivia()...)
		reader := expr.NewReader(p.l)
		c.read(reader)
		row, d, ok := reader.Done()
		if d.Code == api.DDepth {
			continue
		}
		if !ok || !slices.EqualFunc(row, want, same) || d != (api.Diag{}) {
			t.Fatalf("%v: %v, %v, want %v", p.l, row, d, want)
		}
		count(c.n, met)
	}
	for kind, word := range kinds {
		if met[kind] < 100 {
			t.Errorf("%d of kind %s were tried", met[kind], word)
		}
	}
}

// count counts nodes by their kinds.
func count(n api.Node, met map[int]int) {
	met[n.Kind]++
	for _, kid := range n.Kids {
		count(kid, met)
	}
}

// TestSpoiled: P5.14 and R1, lists of tokens that are nearly trees, and readers that go on behind them: each ends, is lossless, or has failed at a token.
func TestSpoiled(t *testing.T) {
	r := rand.New(rand.NewSource(7))
	failed := 0
	for range 60000 {
		c := grower{r}.part(r.Intn(4))
		p := &planter{r: r}
		p.plant(c.n)
		l := spoilt(r, p.l)
		reader := expr.NewReader(l)
		for range 1 + r.Intn(3) {
			c.read(reader)
			c = grower{r}.part(0)
		}
		row, d, ok := reader.Done()
		if ok {
			expectLaws(t, l, row)
			continue
		}
		failed++
		end := api.Span{}
		if l := significant(l); len(l) > 0 {
			end = api.Span{From: l[len(l)-1].To, To: l[len(l)-1].To}
		} else if len(l) > 0 {
			end = api.Span{From: l[0].From, To: l[0].From}
		}
		at := api.Span{From: d.From, To: d.To}
		isToken := slices.ContainsFunc(significant(l), func(t api.Tok) bool { return t.From == at.From && t.To == at.To })
		if len(row) > 0 || d.Code != api.DSyntax && d.Code != api.DDepth || at != end && !isToken {
			t.Fatalf("%v: %v, %v", l, row, d)
		}
	}
	if failed < 1000 {
		t.Errorf("%d failed", failed)
	}
}

// spoilt are tokens some of which are left out, or stand in other places, or are others; one behind the other from 0 on.
func spoilt(r *rand.Rand, l []api.Tok) []api.Tok {
	l = slices.Clone(l)
	for range r.Intn(4) {
		if len(l) == 0 {
			break
		}
		i, j := r.Intn(len(l)), r.Intn(len(l))
		switch r.Intn(4) {
		case 0:
			l = slices.Delete(l, i, i+1)
		case 1:
			l = slices.Insert(l, i, l[j])
		case 2:
			l[i], l[j] = l[j], l[i]
		case 3:
			l[i].Kind = r.Intn(100)
		}
	}
	at := 0
	for i := range l {
		l[i].From, l[i].To = at, at+r.Intn(3)
		at = l[i].To
	}
	return l
}
