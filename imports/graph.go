package imports

import (
	"container/heap"
	"slices"

	"scholiast/api"
)

// graph is which folders each folder imports; all folders are its keys.
type graph map[string]map[string]struct{}

// newGraph tells who imports whom, by each file's folder and outline.
func newGraph(folders []string, l []api.Outline) graph {
	g := graph{}
	for _, folder := range folders {
		g[folder] = map[string]struct{}{}
	}
	for i, o := range l {
		for _, m := range o.Imports {
			if _, ok := g[m.Path]; ok {
				g[folders[i]][m.Path] = struct{}{}
			}
		}
	}
	return g
}

// rising are a map's keys, the lowest one first.
func rising[V any](m map[string]V) []string {
	l := make([]string, 0, len(m))
	for key := range m {
		l = append(l, key)
	}
	slices.Sort(l)
	return l
}

// turned is by which folders each folder is imported.
func (g graph) turned() graph {
	t := graph{}
	for _, folder := range rising(g) {
		t[folder] = map[string]struct{}{}
	}
	for _, folder := range rising(g) {
		for _, path := range rising(g[folder]) {
			t[path][folder] = struct{}{}
		}
	}
	return t
}

// mark gives a number to a folder and to all that can be come to from it, but not to, nor by, those that have one.
func (g graph) mark(folder string, number int, marks map[string]int) {
	work := []string{folder}
	for len(work) > 0 {
		last := len(work) - 1
		next := work[last]
		work = work[:last]
		if _, ok := marks[next]; ok {
			continue
		}
		marks[next] = number
		work = append(work, rising(g[next])...)
	}
}

// knots gives each folder the number of its knot: two that reach each other are in one, and no others.
func (g graph) knots() map[string]int {
	knots := map[string]int{}
	t := g.turned()
	for i, folder := range slices.Backward(g.finished()) {
		t.mark(folder, i, knots)
	}
	return knots
}

// finished are all folders in the order in which a walk finishes them, that goes from each to what it imports, and finishes it behind all of that. So of two knots of which one leads to the other that one has the folder that is finished last.
func (g graph) finished() []string {
	var l []string
	met := map[string]struct{}{}
	for _, folder := range rising(g) {
		l = g.walk(folder, met, l)
	}
	return l
}

// step is one of a walk: to a folder, or back from it, when it is finished.
type step struct {
	folder string
	back   bool
}

// walk goes through what was not met yet, from one folder on, and adds each folder to the list when it is finished. The steps to come stand in a list, not in calls, as a row of imports may be as long as one likes.
func (g graph) walk(folder string, met map[string]struct{}, l []string) []string {
	steps := []step{{folder: folder}}
	for len(steps) > 0 {
		last := len(steps) - 1
		s := steps[last]
		steps = steps[:last]
		if s.back {
			l = append(l, s.folder)
			continue
		}
		if _, ok := met[s.folder]; ok {
			continue
		}
		met[s.folder] = struct{}{}
		steps = append(steps, step{s.folder, true})
		for _, path := range rising(g[s.folder]) {
			steps = append(steps, step{folder: path})
		}
	}
	return l
}

// order tells the folders that reach no ring, each as soon as all that it imports stand and none that is lower might; and all others, rising.
func (g graph) order() ([]string, []string) {
	missing := map[string]int{} // of each folder that does not stand yet, how many that it imports do not either
	ready := &queue{}
	for _, folder := range rising(g) {
		missing[folder] = len(g[folder])
		if missing[folder] == 0 {
			heap.Push(ready, folder)
		}
	}
	var first []string
	t := g.turned()
	for ready.Len() > 0 {
		folder := heap.Pop(ready).(string)
		first = append(first, folder)
		delete(missing, folder)
		for _, by := range rising(t[folder]) {
			missing[by]--
			if missing[by] == 0 {
				heap.Push(ready, by)
			}
		}
	}
	return first, rising(missing)
}
