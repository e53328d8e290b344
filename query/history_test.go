package query_test

import (
	"math/rand"
	"slices"
	"testing"

	"scholiast/api"
	"scholiast/query"
)

// random is a program that asks letters from the one of that number on, below n.
func random(r *rand.Rand, from, n int) string {
	s := ""
	for range r.Intn(8) {
		switch r.Intn(6) {
		case 0:
			s += "!"
		case 1:
			s += "?"
		case 2:
			s += string(rune('0' + r.Intn(3)))
		case 3:
			s += string(rune('A' + r.Intn(n)))
		default:
			if from < n {
				s += letter(from + r.Intn(n-from))
			}
		}
	}
	return s
}

// TestHistories: P10.2 to P10.5 and R5, whatever is set, asked and dropped, with whatever room: each answer is that of a new engine with the inputs as they are; and of two engines that are treated alike both tell the same.
func TestHistories(t *testing.T) {
	const n = 6
	r := rand.New(rand.NewSource(10))
	rings, good := 0, 0
	for range 1500 {
		room := []int{1, 2, 3, 5, n, n, api.MaxCache}[r.Intn(7)]
		e, twin := opened(t, room, player, nil), opened(t, room, player, nil)
		inputs := map[string]string{}
		for range 40 {
			key := letter(r.Intn(n))
			switch r.Intn(8) {
			case 0:
				expect(t, "Drop", e.Drop(key), twin.Drop(key))
				expect(t, "Drop again", e.Drop(key), false)
				twin.Drop(key)
			case 1:
				_, is := inputs[key]
				expect(t, "Unset", e.Unset(key), is)
				twin.Unset(key)
				delete(inputs, key)
			case 2, 3, 4:
				inputs[key] = random(r, 0, n)
				e.Set(key, inputs[key])
				twin.Set(key, inputs[key])
			}
			want := truth(t, n, inputs)
			key = letter(r.Intn(n))
			for range 2 {
				got := get(t, e, key)
				if got != want[key] || get(t, twin, key) != got {
					t.Fatalf("%v: the answer of %s is %v, want %v", inputs, key, got, want[key])
				}
				if e.Kept() > room || e.Kept() != twin.Kept() || e.Runs() != twin.Runs() || e.Revision() != twin.Revision() {
					t.Fatalf("with room for %d: %d and %d are kept; runs %d and %d; revisions %d and %d", room, e.Kept(), twin.Kept(), e.Runs(), twin.Runs(), e.Revision(), twin.Revision())
				}
				if got.ok {
					good++
				} else {
					rings++
				}
			}
			if r.Intn(3) == 0 {
				if is := e.Drop(key); is != want[key].ok {
					t.Fatalf("%v: Drop of %s behind its Get: %v", inputs, key, is)
				}
				twin.Drop(key)
			}
		}
	}
	if rings < 10000 || good < 10000 {
		t.Errorf("%d keys were on rings, %d on none", rings, good)
	}
}

// TestWorkHistories: P10.6, any inputs by which no key is on a ring.
func TestWorkHistories(t *testing.T) {
	const n = 6
	r := rand.New(rand.NewSource(11))
	saved := 0
	for i := range 1500 {
		w, e := watched(t, n+i%2*(api.MaxCache-n), "", "", "", "", "", "")
		for range 40 {
			at := r.Intn(n)
			if at < n-1 || r.Intn(2) == 0 {
				w.set(e, letter(at), random(r, at+1, n), r.Intn(6) > 0)
			}
			runs := e.Runs()
			w.get(e, letter(r.Intn(n)))
			if e.Runs() == runs {
				saved++
			}
		}
	}
	if saved < 10000 {
		t.Errorf("only %d times derive was not called", saved)
	}
}

// TestSameKept: R5, which results are thrown away is the same again and again, also where many have to go at once.
func TestSameKept(t *testing.T) {
	const n = 40
	derive := func(e *query.Engine, key string) string {
		if key == "all" {
			for i := range n {
				e.Get(number("", i*7%n))
			}
		}
		return key
	}
	var first []bool
	for range 20 {
		e := opened(t, 7, derive, nil)
		var got []bool
		for i := range n {
			get(t, e, number("", i))
			if i%5 == 0 {
				e.Set("any", number("", i))
				get(t, e, "all")
			}
			if i%10 == 9 {
				for j := range n {
					got = append(got, e.Drop(number("", j)))
				}
			}
		}
		if first == nil {
			first = got
		}
		if !slices.Equal(got, first) {
			t.Fatalf("other results were kept: %v, %v", got, first)
		}
	}
	if !slices.Contains(first, true) {
		t.Error("none was kept")
	}
}
