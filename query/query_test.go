package query_test

import (
	"math"
	"strings"
	"testing"

	"scholiast/api"
	"scholiast/query"
)

// chapter is the derive of the chapter's examples.
func chapter(e *query.Engine, key string) string {
	other := func(key, or string) string {
		if s, n := e.Get(key); n == api.OK {
			return s
		}
		return or
	}
	switch key {
	case "sum":
		a, _ := e.Input("a")
		b, _ := e.Input("b")
		return a + b
	case "len":
		return strings.Repeat("x", len(other("sum", "")))
	case "p":
		return other("q", "") + "."
	case "q":
		return other("p", "e")
	case "r":
		return other("p", "f")
	}
	return key
}

func expect[T comparable](t *testing.T, what string, got, want T) {
	t.Helper()
	if got != want {
		t.Errorf("%s: %v, want %v", what, got, want)
	}
}

// TestChapter: the chapter's examples, one behind the other.
func TestChapter(t *testing.T) {
	e := opened(t, 10, chapter, nil)
	e.Set("a", "12")
	e.Set("b", "3")
	expect(t, "len", get(t, e, "len"), answer{"xxx", true})
	expect(t, "runs", e.Runs(), 2)
	expect(t, "len again", get(t, e, "len"), answer{"xxx", true})
	expect(t, "runs", e.Runs(), 2)
	expect(t, "revision", e.Revision(), 2)
	e.Set("a", "1")
	e.Set("b", "23")
	expect(t, "len of a sum that is the same", get(t, e, "len"), answer{"xxx", true})
	expect(t, "runs", e.Runs(), 3)
	e.Set("b", "4")
	expect(t, "len of another sum", get(t, e, "len"), answer{"xx", true})
	expect(t, "runs", e.Runs(), 5)
	e.Set("b", "4")
	expect(t, "revision", e.Revision(), 5)
	expect(t, "Unset", e.Unset("b"), true)
	expect(t, "Unset again", e.Unset("b"), false)
	expect(t, "sum", get(t, e, "sum"), answer{"1", true})
	expect(t, "p", get(t, e, "p"), answer{})
	expect(t, "q", get(t, e, "q"), answer{})
	expect(t, "r", get(t, e, "r"), answer{"f", true})
}

// TestNew: P10.1, how much room there may be; what a new engine has.
func TestNew(t *testing.T) {
	for _, room := range []int{math.MinInt, -1, 0, api.MaxCache + 1, 1025, math.MaxInt} {
		if e, n := query.New(room, player); e != nil || n != api.ErrArg {
			t.Errorf("New(%d): %v, %d", room, e, n)
		}
	}
	for _, room := range []int{1, 2, api.MaxCache - 1, api.MaxCache} {
		e := opened(t, room, player, nil)
		expect(t, "Kept", e.Kept(), 0)
		expect(t, "Runs", e.Runs(), 0)
		expect(t, "Revision", e.Revision(), 0)
		expect(t, "Drop", e.Drop("a"), false)
		expect(t, "Unset", e.Unset("a"), false)
		if s, ok := e.Input("a"); ok || s != "" {
			t.Errorf("Input: %q, %v", s, ok)
		}
		expect(t, "Get", get(t, e, "a"), answer{"", true})
	}
}

// TestInputs: P10.2, inputs that come, change, stay and go, and how often they changed.
func TestInputs(t *testing.T) {
	e := opened(t, 1, player, nil)
	have := map[string]string{}
	changes := 0
	look := func() {
		t.Helper()
		for _, key := range []string{"", "a", "A", "b", "\x00\xff", "ab"} {
			s, ok := e.Input(key)
			if want, is := have[key]; s != want || ok != is {
				t.Errorf("Input(%q): %q, %v", key, s, ok)
			}
		}
		expect(t, "Revision", e.Revision(), changes)
		expect(t, "Runs", e.Runs(), 0)
		expect(t, "Kept", e.Kept(), 0)
	}
	for _, c := range []struct {
		key, value string
		unset      bool
		want       int // how often inputs changed by then
	}{
		{"a", "1", false, 1}, {"a", "1", false, 1}, {"a", "2", false, 2}, {"b", "2", false, 3}, {"a", "", false, 4}, {"a", "", false, 4},
		{"a", "", true, 5}, {"a", "", true, 5}, {"a", "", false, 6}, {"", "", false, 7}, {"", "", false, 7}, {"", "\xff\x00", false, 8}, {"\x00\xff", "\x00", false, 9},
		{"A", "", true, 9}, {"", "", true, 10}, {"b", "", true, 11}, {"b", "2", false, 12}, {"\x00\xff", "", true, 13}, {"\x00\xff", "", true, 13},
	} {
		if c.unset {
			_, is := have[c.key]
			expect(t, "Unset", e.Unset(c.key), is)
			delete(have, c.key)
		} else {
			e.Set(c.key, c.value)
			have[c.key] = c.value
		}
		changes = c.want
		look()
	}
}

// TestTwoThings: an input and a result of one key have nothing in common; nor have two engines.
func TestTwoThings(t *testing.T) {
	e := opened(t, 5, func(e *query.Engine, key string) string {
		s, ok := e.Input(key)
		if !ok {
			return "none"
		}
		return "<" + s + ">"
	}, nil)
	other := opened(t, 5, player, map[string]string{"a": "11"})
	expect(t, "without an input", get(t, e, "a"), answer{"none", true})
	if _, ok := e.Input("a"); ok {
		t.Error("a result is an input")
	}
	e.Set("a", "s")
	expect(t, "with one", get(t, e, "a"), answer{"<s>", true})
	if s, _ := e.Input("a"); s != "s" {
		t.Errorf("a result changed an input: %q", s)
	}
	expect(t, "Unset", e.Unset("a"), true)
	expect(t, "Drop", e.Drop("a"), true)
	expect(t, "the other one's Runs", other.Runs(), 0)
	expect(t, "the other one's result", get(t, other, "a"), answer{"xx", true})
	expect(t, "the other one's Revision", other.Revision(), 1)
	expect(t, "Drop takes no input away", other.Drop("a"), true)
	if s, _ := other.Input("a"); s != "11" {
		t.Errorf("%q", s)
	}
	e.Set("b", "")
	expect(t, "Set keeps no result", e.Drop("b"), false)
	expect(t, "the empty text is an input", get(t, e, "b"), answer{"<>", true})
	e.Unset("b")
	expect(t, "it is none", get(t, e, "b"), answer{"none", true})
}

// TestAnyTexts: results and keys are any texts.
func TestAnyTexts(t *testing.T) {
	e := opened(t, 3, func(e *query.Engine, key string) string {
		if len(key) == 0 {
			return ""
		}
		s, _ := e.Get(key[1:])
		return key[:1] + s
	}, nil)
	for _, s := range []string{"", "\x00", "\xff\xfe", "päth/ name\n", strings.Repeat("x", 300)} {
		expect(t, "a key that answers itself", get(t, e, s), answer{s, true})
	}
}

// TestDrop: P10.5, a result that was told is kept until it is dropped; then it is worked out again, and alone.
func TestDrop(t *testing.T) {
	e := opened(t, 10, player, programs("b1", "c", "1"))
	expect(t, "a", get(t, e, "a"), answer{"xx", true})
	expect(t, "Runs", e.Runs(), 3)
	expect(t, "Kept", e.Kept(), 3)
	expect(t, "Drop of none", e.Drop("d"), false)
	expect(t, "Drop", e.Drop("b"), true)
	expect(t, "Drop again", e.Drop("b"), false)
	expect(t, "Kept", e.Kept(), 2)
	expect(t, "a", get(t, e, "a"), answer{"xx", true})
	expect(t, "Drop", e.Drop("a"), true)
	expect(t, "Kept", e.Kept() <= 2, true)
	expect(t, "a", get(t, e, "a"), answer{"xx", true})
	expect(t, "Drop", e.Drop("a"), true)
	expect(t, "Drop", e.Drop("a"), false)
	expect(t, "Revision", e.Revision(), 3)
	runs := e.Runs()
	for range 3 {
		e.Drop("a")
		e.Drop("c")
		e.Set("c", "2")
		e.Unset("b")
		e.Input("c")
		e.Kept()
		e.Revision()
	}
	expect(t, "Runs grew by other calls than Get", e.Runs(), runs)
}

// TestRoom: P10.5, never more is kept than there is room for, also within derive; and what was told last is kept.
func TestRoom(t *testing.T) {
	for _, room := range []int{1, 2, 3, 7, 100, api.MaxCache} {
		most := 0
		derive := func(e *query.Engine, key string) string {
			most = max(most, e.Kept())
			if e.Runs() < 1 || e.Revision() != 0 {
				t.Errorf("within derive: %d, %d", e.Runs(), e.Revision())
			}
			s := "."
			for i := range len(key) {
				r, _ := e.Get(key[:i])
				s += r
				most = max(most, e.Kept())
			}
			return s
		}
		e := opened(t, room, derive, nil)
		for n := range 1100 {
			key := number("", n*7919)
			want := answer{strings.Repeat(".", 1<<len(key)), true}
			expect(t, key, get(t, e, key), want)
			most = max(most, e.Kept())
			runs := e.Runs()
			expect(t, key, get(t, e, key), want)
			expect(t, "Runs at what was told just now", e.Runs(), runs)
			if n%3 == 0 {
				kept := e.Kept()
				expect(t, "Drop", e.Drop(key), true)
				expect(t, "Kept", e.Kept(), kept-1)
			}
		}
		if most > room || most < min(room, 500) {
			t.Errorf("%d were kept at most, with room for %d", most, room)
		}
	}
}

// TestWrongDerive: R1, Get does not panic, whatever derive is; the engine goes on.
func TestWrongDerive(t *testing.T) {
	e := opened(t, 2, nil, nil)
	expect(t, "no derive", get(t, e, "a"), answer{"", true})
	e = opened(t, 2, func(e *query.Engine, key string) string {
		if key == "bad" {
			e.Get("good")
			panic("bad")
		}
		if key == "good" {
			return "x"
		}
		s, _ := e.Get("bad")
		again, _ := e.Get("good")
		return s + again + key
	}, nil)
	expect(t, "one that panics below", get(t, e, "a"), answer{"xa", true})
	expect(t, "one that panics", get(t, e, "bad"), answer{"", true})
	e.Set("a", "")
	expect(t, "below, again", get(t, e, "a"), answer{"xa", true})
	expect(t, "another key", get(t, e, "b"), answer{"xb", true})
}
