package query

import (
	"cmp"
	"maps"
	"slices"
)

// question is what a derive asks: the input of a key, or its result.
type question struct {
	key    string
	result bool
}

// told is what a question is answered: a text, or that there is none, as there is no such input, or as the key is on a ring.
type told struct {
	text string
	is   bool
}

// asked is a question, and what was told.
type asked struct {
	question question
	told     told
}

// result is what was worked out of a key. It is that key's result as long as all that was asked for it is told as it was.
type result struct {
	key  string
	text string
	asks []asked // each question once, in the order in which they were asked first
	held int     // the revision at which it was seen last that it holds
	used int     // the number of its last use
}

// kept tells the results that are kept.
func (e *Engine) kept() map[string]*result {
	e.made.Do(func() { e.results = map[string]*result{} })
	return e.results
}

// keep takes over what a Get from outside has found out: of each key that it came to the result, or that it is on a ring.
func (e *Engine) keep(l []*visit) {
	results := e.kept()
	for _, v := range l {
		if v.ring {
			delete(results, v.result.key)
			continue
		}
		e.uses++
		v.result.held, v.result.used = e.revision, e.uses
		results[v.result.key] = v.result
	}
	e.trim()
}

// trim throws away the results that were not used for the longest time, as many as there is no room for.
func (e *Engine) trim() {
	over := len(e.results) - e.room
	if over <= 0 {
		return
	}
	l := slices.SortedFunc(maps.Values(e.results), func(a, b *result) int { return cmp.Compare(a.used, b.used) })
	for _, r := range l[:over] {
		delete(e.results, r.key)
	}
}
