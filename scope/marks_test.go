package scope_test

import (
	"cmp"
	"slices"
	"strconv"
	"strings"
	"testing"

	"scholiast/api"
	"scholiast/file"
	"scholiast/scope"
)

// Texts are marked with what is to be told of them. Behind a name stands #, a letter for a kind and one for itself, where it declares; @ and the same letters, where it is used and means that; ! and a code, where a diagnostic is of it. $ and two letters stand where something begins without a name, and a ! behind » is of the piece from « on. Names of the universe are not marked.

// place is where something is declared that a mark names.
type place struct{ file, at int }

// marked is a package's files, without their marks, and what the marks say.
type marked struct {
	l     []api.Source
	decls map[string]place // what is declared, by its two letters
	uses  [][]use
	diags [][]api.Diag
}

type use struct {
	from, to int
	of       string
}

// unmark takes the marks out of texts.
func unmark(texts []string) marked {
	m := marked{decls: map[string]place{}}
	for i, text := range texts {
		m.uses = append(m.uses, nil)
		m.diags = append(m.diags, nil)
		name := "p/" + string(rune('a'+i)) + ".go"
		m.l = append(m.l, api.Source{Name: name, Text: m.strip(i, text)})
	}
	return m
}

// strip takes the marks out of one text.
func (m *marked) strip(i int, text string) string {
	s := ""
	var open, piece []int
	for len(text) > 0 {
		word := len(strings.TrimRightFunc(s, isWord))
		switch {
		case text[0] == '#':
			m.decls[text[1:3]] = place{i, word}
			text = text[3:]
		case text[0] == '$':
			m.decls[text[1:3]] = place{i, len(s)}
			text = text[3:]
		case text[0] == '@':
			m.uses[i] = append(m.uses[i], use{word, len(s), text[1:3]})
			text = text[3:]
		case text[0] == '!' && len(text) > 3 && isCode(text[1:4]):
			code, _ := strconv.Atoi(text[1:4])
			if piece == nil {
				piece = []int{word, len(s)}
			}
			m.diags[i] = append(m.diags[i], api.Diag{Code: code, From: piece[0], To: piece[1]})
			text = text[4:]
		case strings.HasPrefix(text, "«"):
			open = append(open, len(s))
			text = text[len("«"):]
		case strings.HasPrefix(text, "»"):
			piece = []int{open[len(open)-1], len(s)}
			open = open[:len(open)-1]
			text = text[len("»"):]
		default:
			s += text[:1]
			text = text[1:]
			piece = nil
		}
	}
	return s
}

func isCode(s string) bool {
	code, fault := strconv.Atoi(s)
	return fault == nil && code >= api.DAgain && code <= api.DLabels
}

func isWord(c rune) bool {
	return c == '_' || '0' <= c && c <= '9' || 'a' <= c && c <= 'z' || 'A' <= c && c <= 'Z'
}

// kindOf is the kind that a mark's letter stands for.
func kindOf(letter byte) int {
	return map[byte]int{'c': api.OConst, 'v': api.OVar, 't': api.OType, 'f': api.OFunc, 'p': api.OPackage}[letter]
}

// binds are those that the marks of a file say.
func (m marked) binds(i int) []api.Bind {
	var l []api.Bind
	for _, u := range m.uses[i] {
		d := m.decls[u.of]
		l = append(l, api.Bind{From: u.from, To: u.to, File: m.l[d.file].Name, At: d.at, Kind: kindOf(u.of[0])})
	}
	return l
}

// sorted are diagnostics in the order in which they are told.
func sorted(l []api.Diag) []api.Diag {
	slices.SortFunc(l, func(a, b api.Diag) int {
		return cmp.Or(cmp.Compare(a.From, b.From), cmp.Compare(a.To, b.To), cmp.Compare(a.Code, b.Code))
	})
	return slices.Compact(l)
}

// parsed are the trees of a package's files, which must be clean.
func parsed(t *testing.T, l []api.Source) []api.Node {
	t.Helper()
	var trees []api.Node
	for _, source := range l {
		n, wrong := file.Parse(source.Text)
		if len(wrong) > 0 {
			t.Fatalf("%q: %v", source.Text, wrong)
		}
		trees = append(trees, n)
	}
	return trees
}

// told is what is told of a package's files.
func told(t *testing.T, l []api.Source) ([][]api.Bind, [][]api.Diag) {
	t.Helper()
	binds, diags, f := scope.Package(l, parsed(t, l))
	if f != api.OK || len(binds) != len(l) || len(diags) != len(l) {
		t.Fatalf("%v: %d, %v, %v", l, f, binds, diags)
	}
	return binds, diags
}

// expect holds what is told of a package's files against their marks.
func expect(t *testing.T, texts ...string) {
	t.Helper()
	m := unmark(texts)
	binds, diags := told(t, m.l)
	for i := range m.l {
		own := slices.DeleteFunc(binds[i], isUniverse)
		if want := m.binds(i); !slices.Equal(own, want) {
			t.Errorf("%s: binds %v, want %v", texts[i], own, want)
		}
		if want := sorted(m.diags[i]); !slices.Equal(diags[i], want) {
			t.Errorf("%s: diagnostics %v, want %v", texts[i], diags[i], want)
		}
	}
}

func isUniverse(b api.Bind) bool { return b.File == "" }

// expectBody holds what is told of functions of these bodies, in a package without anything else.
func expectBody(t *testing.T, bodies ...string) {
	t.Helper()
	for _, body := range bodies {
		expect(t, "package p; func _() { "+body+" }")
	}
}
