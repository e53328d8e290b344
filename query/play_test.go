package query_test

import (
	"maps"
	"strconv"
	"strings"
	"testing"

	"scholiast/api"
	"scholiast/query"
)

// play plays a program. A small letter asks for the result of that key, a capital for the input of its small letter; ! leaves out what stands next if the last answer was there and not empty, ? if it was not; a digit counts. The result is how much was told, less all threes.
func play(program string, input, get func(key string) (string, bool)) string {
	sum, was, skip := 0, true, false
	for _, c := range program {
		if skip {
			skip = false
			continue
		}
		switch {
		case c == '!' || c == '?':
			skip = was == (c == '!')
		case '0' <= c && c <= '9':
			sum += int(c - '0')
		default:
			ask := get
			if c < 'a' {
				ask = input
			}
			s, ok := ask(strings.ToLower(string(c)))
			was = ok && s != ""
			sum += len(s)
			if !ok {
				sum += 2
			}
		}
	}
	return strings.Repeat("x", sum%3)
}

// player is a derive by which the input of a key is the program of its result.
func player(e *query.Engine, key string) string {
	program, _ := e.Input(key)
	return play(program, e.Input, func(key string) (string, bool) {
		s, n := e.Get(key)
		return s, n == api.OK
	})
}

// answer is what a Get answers.
type answer struct {
	text string
	ok   bool
}

func get(t *testing.T, e *query.Engine, key string) answer {
	t.Helper()
	s, n := e.Get(key)
	if n != api.OK && n != api.ErrCycle || n == api.ErrCycle && s != "" {
		t.Fatalf("Get(%q): %q, %d", key, s, n)
	}
	return answer{s, n == api.OK}
}

// opened is an engine that has these inputs.
func opened(t *testing.T, room int, derive func(e *query.Engine, key string) string, inputs map[string]string) *query.Engine {
	t.Helper()
	e, n := query.New(room, derive)
	if n != api.OK || e == nil {
		t.Fatalf("New(%d): %d", room, n)
	}
	for k, s := range inputs {
		e.Set(k, s)
	}
	return e
}

// expectTruth holds the answers of all keys that are asked for against the chapter's words, whatever led to them: which keys are on rings, and what derive answers for all others, if what it asks is told so.
func expectTruth(t *testing.T, inputs map[string]string, answers map[string]answer) {
	t.Helper()
	leans := map[[2]string]bool{}
	texts := map[string]string{}
	for key := range answers {
		texts[key] = play(inputs[key], func(k string) (string, bool) {
			s, ok := inputs[k]
			return s, ok
		}, func(k string) (string, bool) {
			a, ok := answers[k]
			if !ok {
				t.Fatalf("%v: %s was not asked for", inputs, k)
			}
			leans[[2]string{key, k}] = true
			return a.text, a.ok
		})
	}
	for over := range answers {
		for from := range answers {
			for to := range answers {
				if leans[[2]string{from, over}] && leans[[2]string{over, to}] {
					leans[[2]string{from, to}] = true
				}
			}
		}
	}
	for key, got := range answers {
		want := answer{texts[key], true}
		if leans[[2]string{key, key}] {
			want = answer{}
		}
		if got != want {
			t.Fatalf("%v: the answer of %s is %v, want %v, with %v", inputs, key, got, want, answers)
		}
	}
}

// truth is what Get tells of the first n letters, by an engine of its own for each of them, which is held against the chapter's words.
func truth(t *testing.T, n int, inputs map[string]string) map[string]answer {
	t.Helper()
	answers := map[string]answer{}
	for i := range n {
		answers[letter(i)] = get(t, opened(t, api.MaxCache, player, inputs), letter(i))
	}
	expectTruth(t, inputs, answers)
	return answers
}

// letter is the key of that number.
func letter(i int) string { return string(rune('a' + i)) }

// programs are inputs of the keys from a on.
func programs(l ...string) map[string]string {
	m := map[string]string{}
	for i, s := range l {
		m[letter(i)] = s
	}
	return m
}

// expectAll holds what is told of the keys from a on, in whatever order they are asked for, with whatever room: by texts, - standing for a ring.
func expectAll(t *testing.T, inputs map[string]string, want ...string) {
	t.Helper()
	n := len(want)
	all := truth(t, n, inputs)
	for i, s := range want {
		if a := all[letter(i)]; a.ok != (s != "-") || a.ok && a.text != s {
			t.Errorf("%v: the answer of %s is %v, want %q", inputs, letter(i), a, s)
		}
	}
	for _, room := range []int{1, 2, n, api.MaxCache} {
		orders(n, nil, func(l []int) {
			e := opened(t, room, player, inputs)
			got := map[string]answer{}
			for _, i := range l {
				got[letter(i)] = get(t, e, letter(i))
				expectKept(t, e, room, all)
			}
			if !maps.Equal(got, all) {
				t.Errorf("%v, with room for %d, in the order %v: %v, want %v", inputs, room, l, got, all)
			}
		})
	}
}

// expectKept holds P10.5: no more results are kept than there is room for, and none of keys on rings.
func expectKept(t *testing.T, e *query.Engine, room int, all map[string]answer) {
	t.Helper()
	good := 0
	for _, a := range all {
		if a.ok {
			good++
		}
	}
	if got := e.Kept(); got < 0 || got > room || got > good {
		t.Fatalf("%d results are kept, with room for %d, of %d keys that are on no ring", got, room, good)
	}
}

// orders calls f with all orders of the numbers below n.
func orders(n int, begun []int, f func(l []int)) {
	if len(begun) == n {
		f(begun)
		return
	}
next:
	for i := range n {
		for _, j := range begun {
			if i == j {
				continue next
			}
		}
		orders(n, append(begun[:len(begun):len(begun)], i), f)
	}
}

// number is a key or a text that counts.
func number(prefix string, n int) string { return prefix + strconv.Itoa(n) }
