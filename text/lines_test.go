package text

import (
	"strings"
	"testing"

	"scholiast/api"
)

// TestLinesOnce: where lines begin is found out when it is first asked for, and then once for each text.
func TestLinesOnce(t *testing.T) {
	b, _ := New("a\nb")
	if b.lines.places != nil {
		t.Error("found out though nobody asked")
	}
	b.Lines()
	first := &b.lines.places[0]
	b.Place(1)
	b.Line(0)
	b.At(1, 0)
	if &b.lines.places[0] != first {
		t.Error("found out again")
	}
	b.Apply([]api.Edit{{From: 0, To: 1, Text: "\n"}})
	if b.lines.places != nil || b.Lines() != 3 {
		t.Error("those of the text ahead of the edit")
	}
}

// TestPiecesBound: however a text was edited, few pieces are kept of it.
func TestPiecesBound(t *testing.T) {
	b, _ := New(strings.Repeat("ab", 1000))
	var l []api.Edit
	for i := range 1000 {
		l = append(l, api.Edit{From: 2 * i, To: 2*i + 1})
	}
	b.Apply(l)
	if len(b.pieces) > maxPieces || b.Text() != strings.Repeat("b", 1000) {
		t.Error(len(b.pieces))
	}
	for range 200 {
		b.Apply([]api.Edit{{From: 1, To: 1, Text: "c"}})
		if len(b.pieces) > maxPieces {
			t.Fatal(len(b.pieces))
		}
	}
	if b.Text() != "b"+strings.Repeat("c", 200)+strings.Repeat("b", 999) {
		t.Error(b.Text())
	}
}
