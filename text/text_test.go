package text_test

import (
	"math"
	"math/rand"
	"slices"
	"strings"
	"testing"

	"scholiast/api"
	"scholiast/text"
)

func buffer(t *testing.T, s string) *text.Buffer {
	t.Helper()
	b, e := text.New(s)
	if e != api.OK || b == nil {
		t.Fatalf("New: %d", e)
	}
	return b
}

// expect holds everything that a buffer tells against a text, as P1.2 and P1.4 have it.
func expect(t *testing.T, b *text.Buffer, s string) {
	t.Helper()
	if b.Text() != s || b.Len() != len(s) {
		t.Fatalf("text %q of %d bytes, want %q", b.Text(), b.Len(), s)
	}
	lines := strings.Split(s, "\n")
	if b.Lines() != len(lines) {
		t.Fatalf("%q: %d lines, want %d", s, b.Lines(), len(lines))
	}
	at := 0
	for n, line := range lines {
		if got, e := b.Line(n); e != api.OK || got != (api.Span{From: at, To: at + len(line)}) {
			t.Fatalf("%q: line %d is %v, error %d", s, n, got, e)
		}
		for column := range len(line) + 1 {
			if l, c, e := b.Place(at + column); l != n || c != column || e != api.OK {
				t.Fatalf("%q: place %d is %d, %d, error %d", s, at+column, l, c, e)
			}
			if got, e := b.At(n, column); got != at+column || e != api.OK {
				t.Fatalf("%q: at %d, %d is %d, error %d", s, n, column, got, e)
			}
		}
		refuseAt(t, b, n, len(line)+1)
		refuseAt(t, b, n, -1)
		at += len(line) + 1
	}
	refuseLine(t, b, -1)
	refuseLine(t, b, len(lines))
	refusePlace(t, b, -1)
	refusePlace(t, b, len(s)+1)
}

func refuseAt(t *testing.T, b *text.Buffer, line, column int) {
	t.Helper()
	if at, e := b.At(line, column); at != 0 || e != api.ErrRange {
		t.Errorf("At(%d, %d): %d, error %d", line, column, at, e)
	}
}

func refuseLine(t *testing.T, b *text.Buffer, n int) {
	t.Helper()
	if s, e := b.Line(n); s != (api.Span{}) || e != api.ErrRange {
		t.Errorf("Line(%d): %v, error %d", n, s, e)
	}
	refuseAt(t, b, n, 0)
}

func refusePlace(t *testing.T, b *text.Buffer, at int) {
	t.Helper()
	if l, c, e := b.Place(at); l != 0 || c != 0 || e != api.ErrRange {
		t.Errorf("Place(%d): %d, %d, error %d", at, l, c, e)
	}
}

func refusePiece(t *testing.T, b *text.Buffer, from, to int) {
	t.Helper()
	if s, e := b.Piece(from, to); s != "" || e != api.ErrRange {
		t.Errorf("Piece(%d, %d): %q, error %d", from, to, s, e)
	}
}

// TestNew: P1.2, what a buffer begins with, and how long it may be.
func TestNew(t *testing.T) {
	for _, s := range []string{"", "a", "ab\nc", "\x00\xff", strings.Repeat("x", api.MaxFile)} {
		if b := buffer(t, s); b.Text() != s || b.Len() != len(s) {
			t.Errorf("%.9q: %.9q, %d", s, b.Text(), b.Len())
		}
	}
	if b, e := text.New(strings.Repeat("x", api.MaxFile+1)); b != nil || e != api.ErrLong {
		t.Error(b, e)
	}
}

// TestPiece: P1.2, at all pieces of a text of one piece and of one that was edited together.
func TestPiece(t *testing.T) {
	one := buffer(t, "ab\ncdef")
	many := buffer(t, "aXc")
	if e := many.Apply([]api.Edit{{From: 1, To: 2, Text: "b\n"}, {From: 3, To: 3, Text: "de"}, {From: 3, To: 3, Text: "f"}}); e != api.OK {
		t.Fatal(e)
	}
	for _, b := range []*text.Buffer{one, many, buffer(t, "")} {
		s := b.Text()
		for from := range len(s) + 1 {
			for to := from; to <= len(s); to++ {
				if got, e := b.Piece(from, to); got != s[from:to] || e != api.OK {
					t.Errorf("%q: Piece(%d, %d): %q, error %d", s, from, to, got, e)
				}
			}
		}
		for _, p := range [][2]int{{-1, 0}, {1, 0}, {len(s) + 1, len(s)}, {len(s), len(s) + 1}, {len(s) + 1, len(s) + 1}, {math.MinInt, 0}, {0, math.MaxInt}, {math.MaxInt, math.MinInt}, {math.MinInt, math.MaxInt}} {
			refusePiece(t, b, p[0], p[1])
		}
	}
}

// TestClone: P1.2 and R3, a clone has the same text and nothing in common.
func TestClone(t *testing.T) {
	b := buffer(t, "ab\nc")
	if e := b.Apply([]api.Edit{{From: 4, To: 4, Text: "\nd"}}); e != api.OK {
		t.Fatal(e)
	}
	c := b.Clone()
	expect(t, c, "ab\nc\nd")
	if e := c.Apply([]api.Edit{{From: 0, To: 3, Text: "x"}}); e != api.OK {
		t.Fatal(e)
	}
	expect(t, b, "ab\nc\nd")
	expect(t, c, "xc\nd")
	if e := b.Apply([]api.Edit{{From: 0, To: 6, Text: "\n\n"}}); e != api.OK {
		t.Fatal(e)
	}
	expect(t, b, "\n\n")
	expect(t, c, "xc\nd")
	expect(t, buffer(t, "").Clone(), "")
}

// TestApply: P1.3, edits that are done.
func TestApply(t *testing.T) {
	for _, c := range []struct {
		text  string
		edits []api.Edit
		want  string
	}{
		{"ab\nc", nil, "ab\nc"},
		{"ab\nc", []api.Edit{{From: 0, To: 1, Text: "x"}, {From: 2, To: 2, Text: "y"}, {From: 2, To: 3}}, "xbyc"},
		{"", []api.Edit{{}}, ""},
		{"", []api.Edit{{Text: "a"}, {Text: "b"}, {Text: "c"}}, "abc"},
		{"abc", []api.Edit{{From: 3, To: 3, Text: "d"}}, "abcd"},
		{"abc", []api.Edit{{From: 0, To: 3}}, ""},
		{"abc", []api.Edit{{From: 0, To: 0, Text: "1"}, {From: 0, To: 2, Text: "2"}, {From: 2, To: 2, Text: "3"}, {From: 2, To: 3, Text: "4"}, {From: 3, To: 3, Text: "5"}}, "12345"},
		{"abc", []api.Edit{{From: 0, To: 1, Text: "b"}, {From: 1, To: 2, Text: "a"}}, "bac"},
		{"abcdef", []api.Edit{{From: 1, To: 2}, {From: 4, To: 5}}, "acdf"},
		{"a\nb", []api.Edit{{From: 1, To: 2, Text: "\xff\x00"}}, "a\xff\x00b"},
	} {
		b := buffer(t, c.text)
		before := slices.Clone(c.edits)
		if e := b.Apply(c.edits); e != api.OK {
			t.Errorf("%q %v: error %d", c.text, c.edits, e)
		}
		expect(t, b, c.want)
		if !slices.Equal(before, c.edits) {
			t.Errorf("%v was changed", before)
		}
	}
}

// TestApplyRange: P1.3 and R2, edits of which one has no place change nothing.
func TestApplyRange(t *testing.T) {
	fine := api.Edit{From: 0, To: 1, Text: "x"}
	long := strings.Repeat("x", api.MaxFile)
	for _, l := range [][]api.Edit{
		{{From: 1, To: 2}, {From: 0, To: 1}},
		{{From: 0, To: 2}, {From: 1, To: 3}},
		{{From: 0, To: 2}, {From: 1, To: 1, Text: "x"}},
		{{From: 2, To: 2}, {From: 1, To: 2}},
		{{From: 3, To: 2}},
		{{From: 0, To: 5}},
		{{From: 5, To: 5, Text: "x"}},
		{{From: -1, To: 0}},
		{{From: -1, To: -1}},
		{{From: math.MinInt, To: math.MaxInt}},
		{{From: math.MaxInt, To: math.MinInt}},
		{fine, {From: 4, To: 5}},
		{fine, {From: 2, To: 1}},
		{{From: 0, To: 0, Text: long}, {From: 5, To: 5}}, // the range is asked ahead of the length
		{{From: 0, To: 0, Text: long}, {From: 1, To: 0}},
	} {
		b := buffer(t, "ab\nc")
		if e := b.Apply(l); e != api.ErrRange {
			t.Errorf("%.99v: error %d", l, e)
		}
		expect(t, b, "ab\nc")
	}
}

// TestApplyLong: P1.3, the text that there would be counts, not what is put in or taken away on the way.
func TestApplyLong(t *testing.T) {
	full := strings.Repeat("x", api.MaxFile-1) + "\n"
	for _, c := range []struct {
		edits []api.Edit
		want  api.Errno
	}{
		{[]api.Edit{{From: 0, To: 0, Text: "y"}}, api.ErrLong},
		{[]api.Edit{{From: api.MaxFile, To: api.MaxFile, Text: "y"}}, api.ErrLong},
		{[]api.Edit{{From: 0, To: 1, Text: "yy"}}, api.ErrLong},
		{[]api.Edit{{From: 0, To: api.MaxFile, Text: full + "y"}}, api.ErrLong},
		{[]api.Edit{{From: 0, To: api.MaxFile, Text: full}, {From: api.MaxFile, To: api.MaxFile, Text: "y"}}, api.ErrLong},
		{[]api.Edit{{From: 0, To: 0, Text: "y"}, {From: api.MaxFile - 1, To: api.MaxFile}}, api.OK},
		{[]api.Edit{{From: 0, To: 1}, {From: api.MaxFile, To: api.MaxFile, Text: "y"}}, api.OK},
		{[]api.Edit{{From: 0, To: api.MaxFile, Text: full}}, api.OK},
	} {
		b := buffer(t, full)
		before := b.Lines()
		if e := b.Apply(c.edits); e != c.want {
			t.Errorf("error %d, want %d", e, c.want)
		}
		if b.Len() != api.MaxFile {
			t.Error(b.Len())
		}
		if c.want != api.OK && (b.Text() != full || b.Lines() != before) {
			t.Error("a refused edit changed the text")
		}
	}
	short := buffer(t, "a")
	if e := short.Apply([]api.Edit{{From: 1, To: 1, Text: full}}); e != api.ErrLong || short.Text() != "a" {
		t.Error(e)
	}
	if e := short.Apply([]api.Edit{{From: 0, To: 1, Text: full}}); e != api.OK || short.Text() != full {
		t.Error(e)
	}
}

// TestApplyKeepsNothing: R3, what stands in the list behind the call, or behind its length, is not looked at.
func TestApplyKeepsNothing(t *testing.T) {
	b := buffer(t, "abc")
	room := []api.Edit{{From: 0, To: 1, Text: "x"}, {From: 9, To: 0, Text: "rest"}}
	if e := b.Apply(room[:1]); e != api.OK || room[1] != (api.Edit{From: 9, To: 0, Text: "rest"}) {
		t.Error(e, room)
	}
	room[0] = api.Edit{From: 1, To: 2, Text: "zzz"}
	expect(t, b, "xbc")
}

// TestLines: P1.4, at texts with line feeds at their ends and side by side; a carriage return is no line feed.
func TestLines(t *testing.T) {
	for _, s := range []string{"", "\n", "\n\n\n", "a", "a\n", "\na", "ab\nc", "a\r\nb\r", "a\n\n\nbcd\n", "\u2028\u0085\x0b\x0c"} {
		expect(t, buffer(t, s), s)
	}
	b := buffer(t, "ab\nc")
	if l, c, e := b.Place(2); l != 0 || c != 2 || e != api.OK {
		t.Error("a line feed belongs to the line that it ends:", l, c, e)
	}
	for _, n := range []int{math.MinInt, math.MaxInt} {
		refuseLine(t, b, n)
		refusePlace(t, b, n)
		refuseAt(t, b, 0, n)
		refuseAt(t, b, n, n)
	}
	refuseAt(t, b, 0, 3)
	refuseAt(t, b, 1, 2)
}

// TestLinesBehindEdits: P1.4, lines that were asked for ahead of an edit are those of the new text behind it.
func TestLinesBehindEdits(t *testing.T) {
	b := buffer(t, "ab\nc")
	expect(t, b, "ab\nc")
	for _, c := range []struct {
		edit api.Edit
		want string
	}{
		{api.Edit{From: 2, To: 3}, "abc"},
		{api.Edit{From: 1, To: 1, Text: "\n\n"}, "a\n\nbc"},
		{api.Edit{From: 2, To: 2, Text: "x"}, "a\nx\nbc"},
		{api.Edit{From: 0, To: 6}, ""},
		{api.Edit{From: 0, To: 0, Text: "\n"}, "\n"},
	} {
		if e := b.Apply([]api.Edit{c.edit}); e != api.OK {
			t.Fatal(e)
		}
		expect(t, b, c.want)
	}
}

// anyText makes a text of at most n bytes.
func anyText(r *rand.Rand, n int) string {
	var s strings.Builder
	for range r.Intn(n + 1) {
		s.WriteByte("ab\n\n\xe2\x82\x00 {"[r.Intn(9)])
	}
	return s.String()
}

// anyEdits makes edits of a text of length bytes, one behind the other's places; at the same place several insertions may stand.
func anyEdits(r *rand.Rand, length int) []api.Edit {
	places := make([]int, 2*r.Intn(6))
	for i := range places {
		places[i] = r.Intn(length + 1)
	}
	slices.Sort(places)
	var l []api.Edit
	for i := 0; i < len(places); i += 2 {
		if r.Intn(3) == 0 {
			places[i+1] = places[i]
		}
		l = append(l, api.Edit{From: places[i], To: places[i+1], Text: anyText(r, 4)})
	}
	return l
}

// edited is P1.3, worked out from the last edit to the first one.
func edited(s string, l []api.Edit) string {
	for _, e := range slices.Backward(l) {
		s = s[:e.From] + e.Text + s[e.To:]
	}
	return s
}

// TestHistories: P1.2 to P1.5, a buffer that is edited again and again tells what a new one of its text does.
func TestHistories(t *testing.T) {
	r := rand.New(rand.NewSource(1))
	for range 40 {
		s := anyText(r, 30)
		b := buffer(t, s)
		for range 60 {
			l := anyEdits(r, len(s))
			if e := b.Apply(l); e != api.OK {
				t.Fatal(e)
			}
			s = edited(s, l)
			if r.Intn(3) > 0 { // lines are not asked for behind each edit
				expect(t, b, s)
			}
			if r.Intn(4) == 0 {
				b = b.Clone()
			}
			from := r.Intn(len(s) + 1)
			to := from + r.Intn(len(s)-from+1)
			if p, e := b.Piece(from, to); p != s[from:to] || e != api.OK {
				t.Fatalf("%q: Piece(%d, %d): %q, error %d", s, from, to, p, e)
			}
		}
		expect(t, b, s)
	}
}

// TestManyEdits: P1.3, a text that is written byte by byte, and one that many edits cut at once.
func TestManyEdits(t *testing.T) {
	b := buffer(t, "")
	var want strings.Builder
	for i := range 1000 {
		s := string("ab\n"[i%3])
		if e := b.Apply([]api.Edit{{From: i, To: i, Text: s}}); e != api.OK {
			t.Fatal(e)
		}
		want.WriteString(s)
	}
	expect(t, b, want.String())
	var l []api.Edit
	for i := range 500 {
		l = append(l, api.Edit{From: 2 * i, To: 2*i + 1, Text: "\nx"})
	}
	if e := b.Apply(l); e != api.OK {
		t.Fatal(e)
	}
	expect(t, b, edited(want.String(), l))
}

// TestPlaceAndAt: P1.5, At of what Place tells is the place.
func TestPlaceAndAt(t *testing.T) {
	r := rand.New(rand.NewSource(2))
	for range 200 {
		b := buffer(t, anyText(r, 60))
		for at := range b.Len() + 1 {
			line, column, e := b.Place(at)
			if back, f := b.At(line, column); back != at || e != api.OK || f != api.OK {
				t.Fatalf("%q: place %d is %d, %d, at %d", b.Text(), at, line, column, back)
			}
		}
	}
}

// TestEditsSingly: P1.5, edits in one Apply are the same ones done singly, from the last to the first.
func TestEditsSingly(t *testing.T) {
	r := rand.New(rand.NewSource(3))
	for range 500 {
		once := buffer(t, anyText(r, 40))
		singly := once.Clone()
		l := anyEdits(r, once.Len())
		if e := once.Apply(l); e != api.OK {
			t.Fatal(e)
		}
		for _, e := range slices.Backward(l) {
			if f := singly.Apply([]api.Edit{e}); f != api.OK {
				t.Fatal(f)
			}
		}
		if once.Text() != singly.Text() {
			t.Fatalf("%v: %q, singly %q", l, once.Text(), singly.Text())
		}
	}
}
