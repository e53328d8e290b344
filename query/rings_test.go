package query_test

import (
	"strconv"
	"strings"
	"testing"

	"scholiast/api"
	"scholiast/query"
)

// TestRings: P10.3 and P10.4, what is on a ring, and what only leans on one; whoever begins, and in whatever order.
func TestRings(t *testing.T) {
	for _, c := range []struct {
		what     string
		programs []string
		want     []string
	}{
		{"none", []string{"b1", "c1", "1"}, []string{"", "xx", "x"}},
		{"a key that leans on itself", []string{"a", "a", "1b"}, []string{"-", "xx", ""}},
		{"two keys, and one that leans on them", []string{"b", "a", "a1"}, []string{"-", "-", ""}},
		{"three keys", []string{"b", "c", "a1", "b"}, []string{"-", "-", "-", "xx"}},
		{"a key between two others", []string{"b", "ac", "b", "c"}, []string{"-", "-", "-", "xx"}},
		{"a ring below another one, which does not lean on it back", []string{"bc", "a", "d", "c"}, []string{"-", "-", "-", "-"}},
		{"a key that leads from a ring to one is on none", []string{"ab", "c", "c", "1"}, []string{"-", "xx", "-", "x"}},
		{"what is asked for behind an error leads to a ring, too", []string{"b", "c!a", "c"}, []string{"-", "-", "-"}},
		{"it would lead to one, but there is no error", []string{"b", "c!a", "1"}, []string{"x", "x", "x"}},
		{"what is asked for if there is no error leads to none", []string{"b", "c?a", "c"}, []string{"xx", "xx", "-"}},
		{"a key that is through leans on one that is not", []string{"bd", "c", "a", "c"}, []string{"-", "-", "-", "-"}},
		{"it leans on what has another one between", []string{"bd", "ca", "b", "c"}, []string{"-", "-", "-", "-"}},
		{"and behind that again", []string{"bde", "ca", "b", "c", "d"}, []string{"-", "-", "-", "-", "-"}},
		{"asked for twice", []string{"bb", "aa", "aab"}, []string{"-", "-", ""}},
		{"all of all", []string{"abcd", "abcd", "abcd", "abcd"}, []string{"-", "-", "-", "-"}},
		{"two rings that share a key", []string{"bc", "a", "a", "abc"}, []string{"-", "-", "-", ""}},
		{"a ring is through ahead of a key that leans on it", []string{"bd1", "c", "b", "b1"}, []string{"", "-", "-", ""}},
		{"inputs lead to no ring", []string{"A", "AB", "BA"}, []string{"x", "", ""}},
	} {
		t.Run(c.what, func(t *testing.T) { expectAll(t, programs(c.programs...), c.want...) })
	}
}

// TestAllRings: P10.3 and P10.4, all ways in which each of three keys asks for up to two, the second one perhaps only by what the first is told.
func TestAllRings(t *testing.T) {
	all := []string{""}
	for _, a := range "abc" {
		all = append(all, string(a))
		for _, b := range "abc" {
			for _, s := range []string{"", "!", "?"} {
				all = append(all, string(a)+s+string(b)+"1")
			}
		}
	}
	rings := 0
	for _, a := range all {
		for _, b := range all {
			for _, c := range all {
				inputs := programs(a, b, c)
				want := truth(t, 3, inputs)
				for i := range 3 {
					e := opened(t, 1+i, player, inputs)
					for j := range 3 {
						key := letter((i + 2*j) % 3)
						if got := get(t, e, key); got != want[key] {
							t.Fatalf("%v: the answer of %s, as the number %d, is %v, want %v", inputs, key, j, got, want[key])
						}
					}
					expectKept(t, e, 1+i, want)
					if !want[letter(i)].ok {
						rings++
					}
				}
			}
		}
	}
	if rings < 10000 {
		t.Errorf("only %d keys were on rings", rings)
	}
}

// TestRingsComeAndGo: P10.3 and P10.5, a ring that an input closes and opens; results that were kept are of no use on it.
func TestRingsComeAndGo(t *testing.T) {
	for _, first := range []string{"a", "b", "c", "d"} {
		e := opened(t, 10, player, programs("b1", "c", "1", "a"))
		for range 3 {
			expect(t, "d", get(t, e, "d"), answer{"xx", true})
			expect(t, "Kept", e.Kept(), 4)
			e.Set("c", "a")
			get(t, e, first)
			for _, key := range []string{"a", "b", "c"} {
				expect(t, "Drop of a key on a ring", e.Drop(key), false)
				expect(t, "its answer", get(t, e, key), answer{})
				expect(t, "Drop behind that", e.Drop(key), false)
			}
			expect(t, "d, which leans on it", get(t, e, "d"), answer{"xx", true})
			expect(t, "Kept", e.Kept(), 1)
			e.Set("c", "1")
		}
		e.Set("b", "2")
		expect(t, "a", get(t, e, "a"), answer{"", true})
	}
}

// TestSameOnRing: a key that was told of rings ahead, and is told just the same now, but is on one itself.
func TestSameOnRing(t *testing.T) {
	e := opened(t, 10, player, programs("b", "b", "a"))
	expect(t, "a", get(t, e, "a"), answer{"xx", true})
	expect(t, "c", get(t, e, "c"), answer{"xx", true})
	e.Set("b", "ba")
	expect(t, "a", get(t, e, "a"), answer{})
	expect(t, "Drop", e.Drop("a"), false)
	expect(t, "c", get(t, e, "c"), answer{"xx", true})
	e.Set("b", "b")
	expect(t, "a", get(t, e, "a"), answer{"xx", true})
	e.Set("b", "bc")
	expect(t, "c", get(t, e, "c"), answer{})
	expect(t, "a", get(t, e, "a"), answer{})
	e.Set("b", "1")
	expect(t, "c", get(t, e, "c"), answer{"x", true})
}

// TestOldAsks: what was asked for once, but is not asked for any more, leads to no ring.
func TestOldAsks(t *testing.T) {
	e := opened(t, 10, player, programs("b?c", "1", "1"))
	expect(t, "a", get(t, e, "a"), answer{"xx", true})
	e.Set("b", "")
	e.Set("c", "a")
	expect(t, "a asks b alone", get(t, e, "a"), answer{"", true})
	expect(t, "c", get(t, e, "c"), answer{"", true})
	e.Set("b", "1")
	expect(t, "a asks c again", get(t, e, "a"), answer{})
}

// high is a derive by which n0 asks for n1, and so on; the last one of n answers an input, or, if that is a key, what Get tells of it.
func high(n int) func(e *query.Engine, key string) string {
	return func(e *query.Engine, key string) string {
		i, _ := strconv.Atoi(key[1:])
		next := number("n", i+1)
		if i == n {
			next, _ = e.Input("end")
		}
		if !strings.HasPrefix(next, "n") {
			return next
		}
		s, wrong := e.Get(next)
		if wrong != api.OK {
			return "ring"
		}
		return s
	}
}

// TestGreatRing: P10.3 and P10.4, keys in a long row, whose last one leans on one ahead of it, or on none.
func TestGreatRing(t *testing.T) {
	const n = 3000
	for _, room := range []int{1, api.MaxCache} {
		e := opened(t, room, high(n), nil)
		for _, at := range []int{0, n + 1, 1, n / 2, n, n + 1, n - 1} {
			e.Set("end", "end")
			if at <= n {
				e.Set("end", number("n", at))
			}
			for _, i := range []int{0, n, 1, n / 2, n - 1} {
				want := answer{"ring", true}
				switch {
				case at > n:
					want.text = "end"
				case i >= at:
					want = answer{}
				}
				expect(t, number("n", i), get(t, e, number("n", i)), want)
			}
			expect(t, "Kept", e.Kept() <= min(room, at), true)
		}
	}
}
