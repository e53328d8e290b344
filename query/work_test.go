package query_test

import (
	"strings"
	"testing"

	"scholiast/api"
	"scholiast/query"
)

// watch is a derive that is held against P10.6: its keys are letters, its programs the inputs; none of them is on a ring.
type watch struct {
	t      *testing.T
	keys   int
	inputs map[string]string
	now    map[string]answer  // what the results are now
	last   map[string][]asked // what each key asked when it was last called for
	called map[string]bool    // within this Get from outside
	runs   int
}

// asked is what a derive asked for: the result of a key, or its input; and what it was told.
type asked struct {
	key    string
	result bool
	told   answer
}

func (w *watch) derive(e *query.Engine, key string) string {
	w.runs++
	if w.called[key] {
		w.t.Fatalf("%v: %s was worked out twice for one Get", w.inputs, key)
	}
	w.called[key] = true
	if last, ok := w.last[key]; ok && !w.otherwise(last) {
		w.t.Fatalf("%v: %s was worked out again, and all that it asked, %v, is told as it was", w.inputs, key, last)
	}
	var all []asked
	input := func(key string) (string, bool) {
		s, ok := e.Input(key)
		all = append(all, asked{key, false, answer{s, ok}})
		return s, ok
	}
	program, _ := input(key)
	s := play(program, input, func(key string) (string, bool) {
		s, n := e.Get(key)
		all = append(all, asked{key, true, answer{s, n == api.OK}})
		return s, n == api.OK
	})
	w.last[key] = all
	return s
}

// otherwise says whether something is told otherwise now.
func (w *watch) otherwise(l []asked) bool {
	for _, a := range l {
		now := w.now[a.key]
		if !a.result {
			s, ok := w.inputs[a.key]
			now = answer{s, ok}
		}
		if now != a.told {
			return true
		}
	}
	return false
}

// get asks an engine from outside.
func (w *watch) get(e *query.Engine, key string) {
	w.t.Helper()
	clear(w.called)
	if got := get(w.t, e, key); got != w.now[key] {
		w.t.Fatalf("%v: the answer of %s is %v, want %v", w.inputs, key, got, w.now[key])
	}
	if e.Runs() != w.runs {
		w.t.Fatalf("Runs: %d, want %d", e.Runs(), w.runs)
	}
	if e.Kept() != len(w.last) {
		w.t.Fatalf("%d are kept, want all the %d", e.Kept(), len(w.last))
	}
}

// set changes an input; or takes it away.
func (w *watch) set(e *query.Engine, key, program string, is bool) {
	w.t.Helper()
	if is {
		e.Set(key, program)
		w.inputs[key] = program
	} else {
		e.Unset(key)
		delete(w.inputs, key)
	}
	w.now = truth(w.t, w.keys, w.inputs)
}

func watched(t *testing.T, room int, l ...string) (*watch, *query.Engine) {
	t.Helper()
	w := &watch{t: t, keys: len(l), inputs: programs(l...), last: map[string][]asked{}, called: map[string]bool{}}
	e := opened(t, room, w.derive, w.inputs)
	w.now = truth(t, w.keys, w.inputs)
	return w, e
}

// TestWork: P10.6, how often derive is called, if there is room.
func TestWork(t *testing.T) {
	w, e := watched(t, 6, "bd", "c", "D", "1", "1D", "1")
	step := func(what, key string, want int) {
		t.Helper()
		runs := e.Runs()
		w.get(e, key)
		if got := e.Runs() - runs; got != want {
			t.Errorf("%s: %d calls, want %d", what, got, want)
		}
	}
	step("all that a leans on", "a", 4)
	step("again", "a", 0)
	step("what a leaned on", "c", 0)
	step("what leans on an input alone", "e", 1)
	w.set(e, "f", "2", true)
	step("an input that nobody read", "a", 0)
	w.set(e, "d", "2", true)
	step("another input of d and c, and another result of d", "c", 1)
	step("c was as it was", "b", 0)
	step("d is another one, and so a is", "a", 2)
	w.set(e, "d", "22", true)
	w.set(e, "d", "2", true)
	step("an input that became another one, and is again what it was", "a", 0)
	w.set(e, "d", "", false)
	w.set(e, "d", "2", true)
	step("an input that went and came again", "a", 0)
	w.set(e, "d", "5", true)
	step("d and c are what they were", "a", 2)
	w.set(e, "d", "50", true)
	step("d is, c is another one, and b, and a", "a", 4)
	w.set(e, "d", "5", true)
	w.get(e, "c")
	step("c was another one ahead of this, and was told otherwise to b", "b", 1)
	w.set(e, "d", "50", true)
	w.get(e, "c")
	w.set(e, "d", "5", true)
	w.get(e, "c")
	step("c was another one in between, but nobody asked b then", "b", 0)
	w.set(e, "b", "", false)
	step("an input that is not there any more", "b", 1)
	w.set(e, "b", "", true)
	step("an empty one is otherwise than none", "b", 1)
	w.set(e, "c", "a", true)
	w.set(e, "a", "b", true)
	step("what a does not ask any more is not worked out", "a", 1)
}

// TestOrderOfLooks: P10.6, what is not asked any more, as something ahead of it is told otherwise, is not worked out.
func TestOrderOfLooks(t *testing.T) {
	w, e := watched(t, 3, "B?c", "1", "1")
	w.get(e, "a")
	w.set(e, "b", "", true)
	w.set(e, "c", "2", true)
	w.get(e, "a")
	expect(t, "Runs", e.Runs(), 3)
	w.get(e, "c")
	expect(t, "Runs", e.Runs(), 4)
}

// TestOften: P10.6, what is asked for often in one derive.
func TestOften(t *testing.T) {
	w, e := watched(t, 3, strings.Repeat("bBc", 50), "1C", strings.Repeat("C", 30))
	for _, s := range []string{"1", "1", "22", "", "1"} {
		w.set(e, "c", s, true)
		w.get(e, "a")
		w.get(e, "c")
	}
}

// TestAllPairs: P10.6, from all small programs of three keys, none of them on a ring, to one that has another input.
func TestAllPairs(t *testing.T) {
	tops := []string{"", "b", "c", "bc", "cb", "b!c", "b?c", "c!b", "c?b", "B", "C?b", "bC", "C!c"}
	middles := []string{"", "1", "c", "2c", "C", "c?C", "c!C"}
	ends := []string{"", "1", "2", "3", "11"}
	for _, a := range tops {
		for _, b := range middles {
			for _, c := range ends {
				for _, again := range [][2]string{{"a", "b?c"}, {"b", ""}, {"b", "1"}, {"b", "c"}, {"c", ""}, {"c", "1"}, {"c", "3"}} {
					w, e := watched(t, 3, a, b, c)
					w.get(e, "a")
					w.set(e, again[0], again[1], true)
					w.get(e, "a")
					w.get(e, "b")
					w.set(e, again[0], programs(a, b, c)[again[0]], true)
					w.get(e, "c")
					w.get(e, "a")
				}
			}
		}
	}
}

// TestSmallRoom: a result that there is no room for is not worked out again and again within one Get.
func TestSmallRoom(t *testing.T) {
	for _, room := range []int{1, 2, 3, 50, 200} {
		e := opened(t, room, func(e *query.Engine, key string) string {
			n := len(key)
			if n >= 100 {
				s, _ := e.Input("")
				return s
			}
			s := "."
			for _, k := range []string{"a", "b", "a"} {
				r, _ := e.Get(strings.Repeat(k, n+1))
				s += r[:1]
			}
			return s
		}, map[string]string{"": "."})
		for i, s := range []string{"...", ".", "!"} {
			e.Set("", s)
			want := answer{"....", true}
			expect(t, "a", get(t, e, "a"), want)
			expect(t, "b", get(t, e, "b"), want)
			if runs := e.Runs(); runs > 400*(i+1) {
				t.Errorf("with room for %d: %d calls", room, runs)
			}
			expect(t, "Kept", e.Kept(), min(room, 200))
		}
	}
}

// TestHigh: 2^16 keys that lean on one another; without room for them, and on a ring.
func TestHigh(t *testing.T) {
	const n = 1 << 16
	for _, room := range []int{1, api.MaxCache} {
		e := opened(t, room, high(n), nil)
		for _, end := range []string{".", "!", "n0"} {
			e.Set("end", end)
			want := answer{end, end != "n0"}
			if !want.ok {
				want.text = ""
			}
			expect(t, "the first", get(t, e, "n0"), want)
			expect(t, "another one", get(t, e, number("n", n-1)), want)
		}
		expect(t, "Kept", e.Kept(), 0)
	}
}
