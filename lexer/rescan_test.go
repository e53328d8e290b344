package lexer_test

import (
	"math"
	"math/rand"
	"slices"
	"strings"
	"testing"

	"scholiast/api"
	"scholiast/lexer"
	"scholiast/probe"
)

// edited is the text that s becomes by an edit.
func edited(s string, e api.Edit) string { return s[:e.From] + e.Text + s[e.To:] }

// bare are the tokens that are no TAutos.
func bare(l []api.Tok) []api.Tok {
	return slices.DeleteFunc(slices.Clone(l), func(t api.Tok) bool { return t.Kind == api.TAuto })
}

// most is the greatest number that P3.3 allows: a and b are the tokens ahead of the edit and behind it, moved is how much longer the text has become.
func most(a, b []api.Tok, e api.Edit, moved int) int {
	p := 0
	for p < len(a) && p < len(b) && a[p] == b[p] && a[p].From <= e.From {
		p++
	}
	q := 0
	for q < len(a)-p && q < len(b)-p {
		x, y := a[len(a)-1-q], b[len(b)-1-q]
		if (api.Tok{Kind: x.Kind, From: x.From + moved, To: x.To + moved}) != y {
			break
		}
		q++
	}
	touching := 0
	for _, t := range b {
		if t.From <= e.From+len(e.Text) && t.To >= e.From {
			touching++
		}
	}
	return len(b) - p - q + touching + 4
}

// expectRescan holds Rescan against Scan of both texts, and its number against P3.3.
func expectRescan(t *testing.T, old string, e api.Edit) {
	t.Helper()
	l, _ := lexer.Scan(old)
	given := slices.Clone(l)
	s := edited(old, e)
	want, _ := lexer.Scan(s)
	got, n, err := lexer.Rescan(old, given, e)
	if !slices.Equal(got, want) || err != api.OK {
		t.Fatalf("Rescan(%q, %v): %v, error %d, want %v", old, e, got, err, want)
	}
	if max := most(bare(l), bare(want), e, len(s)-len(old)); n < 0 || n > max {
		t.Fatalf("Rescan(%q, %v): %d tokens looked at, want %d at most", old, e, n, max)
	}
	if !slices.Equal(given, l) {
		t.Fatalf("Rescan(%q, %v) changed what it was given", old, e)
	}
}

// TestRescan: P3.2 and P3.3, edits that change what stands beside them, behind and ahead of them.
func TestRescan(t *testing.T) {
	for _, c := range []struct {
		old string
		e   api.Edit
	}{
		{"", api.Edit{}}, {"", api.Edit{Text: "a"}}, {"a", api.Edit{To: 1}}, {"a b", api.Edit{From: 1, To: 1}}, {"a b", api.Edit{From: 3, To: 3}},
		{"ab", api.Edit{From: 1, To: 1, Text: " "}}, {"a b", api.Edit{From: 1, To: 2}}, {"a b c", api.Edit{From: 2, To: 3, Text: "func"}}, {"func", api.Edit{From: 4, To: 4, Text: "s"}}, {"1 a", api.Edit{From: 1, To: 2}},
		{"a /* b */ c", api.Edit{From: 7, To: 9}}, {"a /* b c", api.Edit{From: 6, To: 6, Text: "*/"}}, {"a / b */ c", api.Edit{From: 3, To: 3, Text: "*"}}, {"/*/", api.Edit{From: 1, To: 1, Text: "**/"}}, {"a * /b", api.Edit{From: 3, To: 4}}, {"/ /a\nb", api.Edit{From: 1, To: 2}},
		{"a \" b\nc", api.Edit{From: 4, To: 4, Text: "\""}}, {"\"a\\\nb\"", api.Edit{From: 3, To: 4}}, {"\"a\\", api.Edit{From: 3, To: 3, Text: "\""}}, {"\"a\\\\\"", api.Edit{From: 3, To: 4}}, {"`a` `b`", api.Edit{From: 2, To: 3}}, {"a b `c", api.Edit{From: 1, To: 1, Text: "`"}},
		{"..", api.Edit{From: 2, To: 2, Text: "."}}, {".. .", api.Edit{From: 2, To: 3}}, {"...", api.Edit{From: 2, To: 3}}, {"....", api.Edit{From: 3, To: 4, Text: " "}}, {"<=", api.Edit{From: 1, To: 1, Text: "<"}}, {"& ^=", api.Edit{From: 1, To: 2}}, {"++++", api.Edit{From: 1, To: 1, Text: "+"}},
		{"\xf0\x9f\x98", api.Edit{From: 3, To: 3, Text: "\x80"}}, {"\xf0\x9f\x98\x80", api.Edit{From: 3, To: 4}}, {"\xf0\x9f\x98\x80", api.Edit{From: 3, To: 4, Text: "a"}}, {"a\xf0\x9f \x98\x80", api.Edit{From: 3, To: 4}}, {"\xe2\x82", api.Edit{From: 2, To: 2, Text: "\xac"}},
		{"\xef\xbb\xbfa", api.Edit{Text: "b"}}, {"b\xef\xbb\xbfa", api.Edit{To: 1}}, {"\xef\xbb\xbfa", api.Edit{To: 3}}, {"\xef\xbba", api.Edit{From: 2, To: 2, Text: "\xbf"}}, {"a", api.Edit{Text: "\xef\xbb\xbf"}}, {"\xef\xbb\xbf", api.Edit{Text: "\xef\xbb\xbf"}}, {"\xef\xbb\xbf\xef\xbb\xbfa", api.Edit{To: 3}}, {"\xef\xbb\xbfa", api.Edit{}},
		{"a b", api.Edit{From: 1, To: 2, Text: "\n"}}, {"a\nb", api.Edit{From: 1, To: 2, Text: " "}}, {"a", api.Edit{From: 1, To: 1, Text: " "}}, {"a /*\n*/ b", api.Edit{From: 4, To: 5}}, {"a /**/ /**/ b", api.Edit{From: 9, To: 9, Text: "\n"}}, {"a /**/ /*\n*/ + b", api.Edit{From: 14, To: 15, Text: "c"}}, {"a /*\n*/ // c\nb", api.Edit{From: 12, To: 13}},
		{"a /**/ # // c", api.Edit{From: 12, To: 13, Text: "\nb"}}, {"a   ", api.Edit{From: 4, To: 4, Text: "b"}}, {"a    /**/    b", api.Edit{From: 13, To: 14}}, {"a    /**/    ", api.Edit{From: 13, To: 13, Text: "b"}}, {"a\n    /**/    b", api.Edit{From: 14, To: 15}}, {" /**/    b", api.Edit{From: 0, To: 0, Text: "a"}}, {"a + /*\n*/", api.Edit{From: 2, To: 3}},
	} {
		expectRescan(t, c.old, c.e)
	}
}

// TestRescanAll: P3.2 and P3.3, all short texts with all edits that put short ones in.
func TestRescanAll(t *testing.T) {
	for _, c := range []struct {
		alphabet string
		n        int
	}{
		{"a \n/*", 3}, {"a\"\\\n`", 3}, {"\xef\xbb\xbf.", 4}, {"\xf0\x9f\x98\x80", 4}, {"&^=.+", 3}, {"'\\\n/", 4}, {"a1;\n", 4},
	} {
		var put []string
		probe.Every(c.alphabet, 2, func(s string) { put = append(put, s) })
		probe.Every(c.alphabet, c.n, func(old string) {
			for from := range len(old) + 1 {
				for to := from; to <= len(old); to++ {
					for _, s := range put {
						expectRescan(t, old, api.Edit{From: from, To: to, Text: s})
					}
				}
			}
		})
	}
}

// TestRescanTexts: P3.2 and P3.3, longer texts that are edited again and again, each time by the tokens that the time before told.
func TestRescanTexts(t *testing.T) {
	r := rand.New(rand.NewSource(2))
	for range 3000 {
		s := anyText(r, 40)
		l, _ := lexer.Scan(s)
		for range 10 {
			from := r.Intn(len(s) + 1)
			to := min(len(s), from+r.Intn(6))
			e := api.Edit{From: from, To: to, Text: anyText(r, 4)}
			expectRescan(t, s, e)
			again, _, err := lexer.Rescan(s, l, e)
			s = edited(s, e)
			l, _ = lexer.Scan(s)
			if !slices.Equal(again, l) || err != api.OK {
				t.Fatalf("%q: %v, error %d, want %v", s, again, err, l)
			}
			l = again
		}
	}
}

// TestRescanLittle: P3.3, in a long text few tokens are looked at, wherever it is edited; and W1's texts that change as a whole have all of them looked at.
func TestRescanLittle(t *testing.T) {
	long := strings.Repeat(program+"\n", 5)
	l, _ := lexer.Scan(long)
	for at := 0; at <= len(long); at += 31 {
		for _, s := range []string{"", " ", "x", "\n", "(", "1", "+="} {
			expectRescan(t, long, api.Edit{From: at, To: at, Text: s})
		}
	}
	for _, c := range []struct {
		e    api.Edit
		most int
	}{
		{api.Edit{From: len(long) - 1, To: len(long), Text: "\n"}, 8},
		{api.Edit{Text: " "}, 6},
		{api.Edit{From: 2, To: 2}, 6},
		{api.Edit{Text: "/*"}, 6},
	} {
		if _, n, err := lexer.Rescan(long, l, c.e); n > c.most || err != api.OK {
			t.Errorf("%v: %d tokens looked at, error %d, want %d at most", c.e, n, err, c.most)
		}
	}
	for _, s := range []string{"a b c", "\n\n", "(((", "x := 1\n"} {
		all, _ := lexer.Scan(s)
		if _, n, err := lexer.Rescan("", nil, api.Edit{Text: s}); n != len(bare(all)) || err != api.OK {
			t.Errorf("%q put in: %d tokens looked at, error %d", s, n, err)
		}
	}
}

// TestRescanRange: P3.2 and R2, pieces that are not in the text.
func TestRescanRange(t *testing.T) {
	l, _ := lexer.Scan("a b")
	places := []int{math.MinInt, -4, -1, 0, 1, 3, 4, 5, math.MaxInt}
	for _, from := range places {
		for _, to := range places {
			got, n, err := lexer.Rescan("a b", l, api.Edit{From: from, To: to, Text: "c"})
			if 0 <= from && from <= to && to <= 3 {
				if err != api.OK {
					t.Errorf("%d, %d: error %d", from, to, err)
				}
				continue
			}
			if len(got) > 0 || n != 0 || err != api.ErrRange {
				t.Errorf("%d, %d: %v, %d, error %d", from, to, got, n, err)
			}
		}
	}
}

// TestRescanOther: R1 and R3, whatever tokens come in, an answer comes, and they are not changed.
func TestRescanOther(t *testing.T) {
	r := rand.New(rand.NewSource(3))
	places := []int{math.MinInt, math.MaxInt, -1, 0, 1, 2, 3, 4, 5, 6, 7, 100}
	kinds := []int{math.MinInt, -1, 0, api.TSpace, api.TFeed, api.TBlock, api.TBad, api.TIdent, api.TAuto, api.TRbrace, api.NFile, math.MaxInt}
	for range 100000 {
		old := anyText(r, 5)
		l, _ := lexer.Scan(old)
		l = append(l, l...)[:r.Intn(2*len(l)+1)]
		for range r.Intn(4) {
			t := api.Tok{Kind: kinds[r.Intn(len(kinds))], From: places[r.Intn(len(places))], To: places[r.Intn(len(places))]}
			if len(l) > 0 && r.Intn(2) == 0 {
				at := r.Intn(len(l))
				t = [...]api.Tok{t, {Kind: t.Kind, From: l[at].From, To: l[at].To}, {Kind: l[at].Kind, From: t.From, To: l[at].To}}[r.Intn(3)]
				l[at] = t
				continue
			}
			l = append(l, t)
		}
		given := slices.Clone(l)
		from := r.Intn(len(old) + 1)
		_, n, err := lexer.Rescan(old, l, api.Edit{From: from, To: from + r.Intn(len(old)-from+1), Text: anyText(r, 2)})
		if err != api.OK || n < 0 || !slices.Equal(l, given) {
			t.Fatalf("Rescan(%q, %v): %d, error %d", old, given, n, err)
		}
	}
}

// TestRescanMemory: R3, the answer has its own memory, and what lies behind the list that comes in stays.
func TestRescanMemory(t *testing.T) {
	const old = "a b c d e f g h"
	l, _ := lexer.Scan(old)
	room := append(slices.Clone(l), make([]api.Tok, 50)...)
	for _, e := range []api.Edit{{}, {From: 7, To: 8, Text: "x"}, {From: 15, To: 15, Text: " i j"}, {To: 15}} {
		given := room[:len(l)]
		got, _, _ := lexer.Rescan(old, given, e)
		for i := range got[:cap(got)] {
			got[:cap(got)][i] = api.Tok{Kind: -1}
		}
		if !slices.Equal(given, l) || slices.ContainsFunc(room[len(l):], func(t api.Tok) bool { return t != (api.Tok{}) }) {
			t.Fatalf("%v: the tokens that came in are %v", e, room)
		}
	}
}
