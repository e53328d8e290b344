package scope_test

import (
	"cmp"
	"slices"
	"strconv"
	"strings"

	"scholiast/api"
	"scholiast/outline"
	"scholiast/scope"
)

// The model tells by each name's way what it does there and when its turn comes, and then takes all names of a file by turns.

// step is a node, and the number of that part of it which is gone on to.
type step struct {
	n    api.Node
	part int
}

// named is an NName: its text, and the way to it.
type named struct {
	n    api.Node
	text string
	way  []step
}

// What names do.
const (
	nothing = iota
	uses
	keys
	assigns
	defines
	declares // behind it the kind
	labels   = 100
	jumps    = 101
)

// thing is what a name means.
type thing struct {
	bind   api.Bind
	diag   api.Diag // of it, if it is not used
	unused bool
}

func nth(n api.Node, i int) api.Node {
	for _, kid := range n.Kids {
		if kid.Kind >= api.NNone {
			if i == 0 {
				return kid
			}
			i--
		}
	}
	return api.Node{Kind: api.NNone}
}

func count(n api.Node) int {
	c := 0
	for nth(n, c).Kind != api.NNone {
		c++
	}
	return c
}

// all are the names at the end of a way that goes on to a node.
func all(s string, n api.Node, way []step) []named {
	if n.Kind == api.NName {
		return []named{{n, s[n.From:n.To], way}}
	}
	var l []named
	part := 0
	for _, kid := range n.Kids {
		if kid.Kind >= api.NNone {
			l = append(l, all(s, kid, append(slices.Clone(way), step{n, part}))...)
			part++
		}
	}
	return l
}

// up is a step of a name's way, counted from its end.
func (x named) up(i int) step {
	if i >= len(x.way) {
		return step{}
	}
	return x.way[len(x.way)-1-i]
}

// isParam says whether a name is that of a parameter of what its way begins with, not of something within: whether it is no last part.
func isParam(way []step) bool {
	last := way[len(way)-1]
	between := slices.ContainsFunc(way[1:len(way)-1], func(st step) bool {
		return st.n.Kind != api.NSig && st.n.Kind != api.NParams && st.n.Kind != api.NTParams
	})
	return !between && last.n.Kind == api.NParam && nth(last.n, last.part+1).Kind != api.NNone
}

// isReceivers says whether a name is one that a receiver names its type's parameters by; the way begins with the NFuncD.
func isReceivers(way []step) bool {
	spelt := ""
	for _, st := range way {
		spelt += strconv.Itoa(st.n.Kind) + " "
	}
	for _, stars := range []int{0, 1} {
		rest := spelt
		for _, want := range []struct{ kind, least, most int }{{api.NFuncD, 1, 1}, {api.NParams, 1, 1}, {api.NParam, 1, 1}, {api.NParen, 0, 99}, {api.NStar, stars, stars}, {api.NParen, 0, 99}, {api.NIndex, 1, 1}} {
			word, times := strconv.Itoa(want.kind)+" ", 0
			for times < want.most && strings.HasPrefix(rest, word) {
				rest, times = rest[len(word):], times+1
			}
			if times < want.least {
				rest = "no"
			}
		}
		if rest == "" {
			return way[0].part == 0 && nth(way[1].n, 1).Kind == api.NNone && nth(way[2].n, way[2].part+1).Kind == api.NNone && way[len(way)-1].part > 0
		}
	}
	return false
}

// role is what a name does.
func (x named) role() int {
	up, above := x.up(0), x.up(1)
	last := nth(up.n, up.part+1).Kind == api.NNone
	switch up.n.Kind {
	case api.NPackage, api.NImp, api.NFuncD:
		return nothing
	case api.NSel:
		return []int{uses, nothing}[up.part]
	case api.NMethod:
		return nothing
	case api.NField:
		if !last {
			return nothing
		}
	case api.NParam:
		if !last && above.n.Kind == api.NTParams {
			return declares + api.OType
		}
		if !last {
			return declares + api.OVar
		}
	case api.NIndex:
		for i := range x.way {
			if isReceivers(x.way[i:]) {
				return declares + api.OType
			}
		}
	case api.NLabel:
		return labels
	case api.NBreak, api.NCont:
		return jumps
	case api.NTSpec:
		if up.part == 0 {
			return declares + api.OType
		}
	case api.NTSwitch:
		if up.part == 1 {
			return declares + api.OVar
		}
	case api.NKey:
		if up.part == 0 {
			return keys
		}
	case api.NList:
		return x.listed(above)
	}
	return uses
}

// listed is what a name does that stands alone in a list.
func (x named) listed(above step) int {
	if above.part > 0 {
		return uses
	}
	switch above.n.Kind {
	case api.NSpec:
		if x.up(2).n.Kind == api.NConst {
			return declares + api.OConst
		}
		return declares + api.OVar
	case api.NDefine:
		return defines
	case api.NAssign, api.NRange:
		for _, kid := range above.n.Kids {
			if kid.Kind == api.TAssign {
				return assigns
			}
			if kid.Kind == api.TDefine {
				return declares + api.OVar
			}
		}
	}
	return uses
}

// turn is when a name's turn comes: names are taken by rising turns.
func (x named) turn() []int {
	var l []int
	for i, st := range x.way {
		rank := st.part
		switch st.n.Kind {
		case api.NFuncD:
			l = append(l, phase(x.way[i:], st.part == 4))
		case api.NFn:
			l = append(l, phase(x.way[i:], st.part == 1))
		case api.NSig:
			if parent := x.way[i-1].n.Kind; parent != api.NFuncD && parent != api.NFn {
				l = append(l, phase(x.way[i:], false))
			}
		case api.NTSpec:
			l = append(l, specPhase(x.way[i:]))
		case api.NSpec, api.NDefine:
			if st.part == 0 {
				rank = 9
			}
		case api.NFor:
			if st.part == 2 {
				rank = 9
			}
		case api.NRange:
			rank = []int{1, 0, 2}[st.part]
		}
		l = append(l, rank)
	}
	return l
}

// phase is which names of a function come when: the receiver's parameters, the type parameters, their constraints, types, names, the body.
func phase(way []step, body bool) int {
	typed := len(way) > 1 && way[1].n.Kind == api.NTParams
	switch param := len(way) > 1 && isParam(way); {
	case body:
		return 5
	case isReceivers(way):
		return 0
	case typed && param:
		return 1
	case typed:
		return 2
	case param:
		return 4
	}
	return 3
}

// specPhase is which names of a type's spec come when.
func specPhase(way []step) int {
	switch st := way[0]; {
	case st.part == 0 && slices.ContainsFunc(st.n.Kids, func(n api.Node) bool { return n.Kind == api.TAssign }):
		return 4
	case st.part == 0:
		return 0
	case st.part == 1 && isParam(way):
		return 1
	case st.part == 1:
		return 2
	}
	return 3
}

// scopesOf are the scopes in which a name stands, the innermost one first, each told by the way to it.
func (x named) scopesOf() []string {
	var l []string
	id := ""
	for i, st := range x.way {
		parent := 0
		if i > 0 {
			parent = x.way[i-1].n.Kind
		}
		has := false
		switch st.n.Kind {
		case api.NFuncD, api.NFn, api.NIf, api.NFor, api.NRange, api.NSwitch, api.NTSwitch:
			has = true
		case api.NSig, api.NBlock:
			has = parent != api.NFuncD && parent != api.NFn
		case api.NTSpec:
			has = st.part > 0 && nth(st.n, 1).Kind != api.NNone
		case api.NCase:
			has = st.part > 0
		}
		if has {
			l = append([]string{id}, l...)
		}
		id += strconv.Itoa(st.part) + "."
	}
	return l
}

// id is the way to the node that many steps above a name's own end.
func (x named) id(above int) string {
	id := ""
	for _, st := range x.way[:len(x.way)-above] {
		id += strconv.Itoa(st.part) + "."
	}
	return id
}

// model takes the names of a file.
type model struct {
	source  api.Source
	pack    map[string]*thing
	imports map[string]*thing
	scopes  map[string]map[string]*thing
	labels  map[string]map[string]int
	meant   map[string]int
	things  []*thing
	binds   []api.Bind
	diags   []api.Diag
}

func (m *model) tell(code int, n api.Node) {
	m.diags = append(m.diags, api.Diag{Code: code, From: n.From, To: n.To})
}

func (m *model) thing(kind int, n api.Node) *thing {
	return &thing{bind: api.Bind{File: m.source.Name, At: n.From, Kind: kind}, diag: api.Diag{Code: api.DUnused, From: n.From, To: n.To}}
}

// find looks for what a name means.
func (m *model) find(x named) *thing {
	if x.text == "_" {
		return nil
	}
	for _, id := range x.scopesOf() {
		if m.scopes[id][x.text] != nil {
			return m.scopes[id][x.text]
		}
	}
	if o, ok := scope.Universe(x.text); ok && m.pack[x.text] == nil && m.imports[x.text] == nil {
		return &thing{bind: api.Bind{At: -1, Kind: o.Kind}}
	}
	return cmp.Or(m.pack[x.text], m.imports[x.text])
}

// bind is what a name means, with its bind.
func (m *model) bind(x named) *thing {
	d := m.find(x)
	if d != nil {
		b := d.bind
		b.From, b.To = x.n.From, x.n.To
		m.binds = append(m.binds, b)
	}
	return d
}

// put declares a thing in a scope.
func (m *model) put(id string, x named, kind int, must bool) {
	if m.scopes[id] == nil {
		m.scopes[id] = map[string]*thing{}
	}
	if m.scopes[id][x.text] != nil {
		m.tell(api.DAgain, x.n)
		return
	}
	d := m.thing(kind, x.n)
	d.unused = must
	m.scopes[id][x.text] = d
	m.things = append(m.things, d)
}

// take is a name's turn.
func (m *model) take(x named) {
	switch role := x.role(); role {
	case nothing:
	case uses, assigns, keys:
		m.use(x, role)
	case defines:
		m.define(x)
	case labels:
		m.label(x)
	case jumps:
		m.jump(x)
	default:
		m.declare(x, role-declares)
	}
}

func (m *model) use(x named, role int) {
	if role == assigns && x.text == "_" {
		return
	}
	switch d := m.bind(x); {
	case d != nil && role != assigns:
		d.unused = false
	case d == nil && role != keys:
		m.tell(api.DUndef, x.n)
	}
}

func (m *model) declare(x named, kind int) {
	in := x.scopesOf()
	if x.text == "_" || len(in) == 0 {
		return
	}
	up := x.up(0)
	if up.n.Kind == api.NTSwitch {
		d := m.thing(kind, x.n)
		d.unused = true
		m.things = append(m.things, d)
		for part := 3; nth(up.n, part).Kind != api.NNone; part++ {
			m.scopes[x.id(1)+strconv.Itoa(part)+"."] = map[string]*thing{x.text: d}
		}
		return
	}
	m.put(in[0], x, kind, up.n.Kind == api.NList && kind == api.OVar)
}

func (m *model) define(x named) {
	list, in := x.up(0), x.scopesOf()[0]
	again, fresh := false, 0
	for i := range count(list.n) {
		n := nth(list.n, i)
		text := m.source.Text[n.From:n.To]
		again = again || i < list.part && text == x.text
		// At the last name's turn the scope has those that were declared here: they begin here.
		if d := m.scopes[in][text]; d != nil && d.bind.At >= list.n.From && d.bind.At < list.n.To {
			fresh++
		}
	}
	switch {
	case x.text == "_":
	case again:
		m.tell(api.DAgain, x.n)
	case m.scopes[in][x.text] != nil:
		m.bind(x)
	default:
		m.put(in, x, api.OVar, true)
		fresh++
	}
	if list.part == count(list.n)-1 && fresh == 0 {
		m.tell(api.DAgain, list.n)
	}
}

// inner is the way to the innermost function or literal in which a name stands, and what of the name's way is within it.
func (x named) inner() (string, []step) {
	id, at, from := "", "", 0
	for i, st := range x.way {
		if st.n.Kind == api.NFuncD || st.n.Kind == api.NFn {
			id, from = at, i
		}
		at += strconv.Itoa(st.part) + "."
	}
	return id, x.way[from:]
}

func (m *model) label(x named) {
	if x.text == "_" {
		return
	}
	in, _ := x.inner()
	if m.labels[in] == nil {
		m.labels[in] = map[string]int{}
	}
	if m.labels[in][x.text] > 0 {
		m.tell(api.DAgain, x.n)
	}
	m.labels[in][x.text]++
}

func (m *model) jump(x named) {
	_, way := x.inner()
	for i := len(way) - 1; i >= 0; i-- {
		st := way[i]
		name := nth(st.n, 0)
		if st.n.Kind != api.NLabel || x.text == "_" || m.source.Text[name.From:name.To] != x.text {
			continue
		}
		m.meant[strconv.Itoa(name.From)]++
		kind := nth(st.n, 1).Kind
		if x.up(0).n.Kind == api.NCont && kind != api.NFor && kind != api.NRange {
			m.tell(api.DLabel, x.n)
		}
		return
	}
	m.tell(api.DLabel, x.n)
}

// run takes all names of a file.
func (m *model) run(tree api.Node, o api.Outline) ([]api.Bind, []api.Diag) {
	for _, i := range o.Imports {
		m.imported(i)
	}
	names := all(m.source.Text, tree, nil)
	slices.SortStableFunc(names, func(a, b named) int { return slices.Compare(a.turn(), b.turn()) })
	for _, x := range names {
		m.take(x)
	}
	for _, x := range names {
		if x.role() == labels && x.text != "_" && m.meant[strconv.Itoa(x.n.From)] == 0 {
			m.tell(api.DLabels, x.n)
		}
	}
	for _, d := range m.things {
		if d.unused {
			m.diags = append(m.diags, d.diag)
		}
	}
	slices.SortFunc(m.binds, func(a, b api.Bind) int { return cmp.Compare(a.From, b.From) })
	return m.binds, sorted(m.diags)
}

func (m *model) imported(i api.Import) {
	name := i.Name
	if name == "" {
		all := strings.Split(i.Path, "/")
		name = all[len(all)-1]
		if strings.Trim(name, "abcdefghijklmnopqrstuvwxyz0123456789_") != "" {
			name = ""
		}
	}
	switch {
	case name == "" || name == "_":
	case m.pack[name] != nil || m.imports[name] != nil:
		m.tell(api.DAgain, api.Node{From: i.From, To: i.To})
	default:
		d := m.thing(api.OPackage, api.Node{From: i.From, To: i.To})
		d.diag.Code, d.unused = api.DImports, true
		m.imports[name] = d
		m.things = append(m.things, d)
	}
}

// modelled is what the model tells of a package.
func modelled(l []api.Source, trees []api.Node) ([][]api.Bind, [][]api.Diag) {
	pack := map[string]*thing{}
	var outlines []api.Outline
	var models []*model
	for i, source := range l {
		o, _ := outline.Of(source.Text, trees[i])
		outlines = append(outlines, o)
		m := &model{source: source, pack: pack, imports: map[string]*thing{}, scopes: map[string]map[string]*thing{}, labels: map[string]map[string]int{}, meant: map[string]int{}}
		models = append(models, m)
		for _, d := range o.Decls {
			for _, name := range d.Names {
				switch n := (api.Node{From: name.From, To: name.To}); {
				case name.Name == "_" || d.Recv != "" || d.Kind == api.OFunc && name.Name == "init":
				case pack[name.Name] != nil:
					m.tell(api.DAgain, n)
				default:
					pack[name.Name] = m.thing(d.Kind, n)
				}
			}
		}
	}
	var binds [][]api.Bind
	var diags [][]api.Diag
	for i, m := range models {
		b, d := m.run(trees[i], outlines[i])
		binds, diags = append(binds, b), append(diags, d)
	}
	return binds, diags
}
