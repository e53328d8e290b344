package imports

import "scholiast/api"

// workspace is where files stand, and who imports whom.
type workspace struct {
	folders []string       // of each file
	first   map[string]int // of each folder the number of its first file
	imports graph
}

// gather makes a workspace of files' names and outlines.
func gather(names []string, l []api.Outline) (workspace, api.Errno) {
	if len(names) != len(l) {
		return workspace{}, api.ErrArg
	}
	w := workspace{first: map[string]int{}}
	for i, name := range names {
		folder, _, f := Split(name)
		if f != api.OK {
			return workspace{}, f
		}
		w.folders = append(w.folders, folder)
		if _, ok := w.first[folder]; !ok {
			w.first[folder] = i
		}
	}
	// A name that is none counts wherever it stands, so the order is looked at behind them all.
	if !rise(names) {
		return workspace{}, api.ErrArg
	}
	w.imports = newGraph(w.folders, l)
	return w, api.OK
}

// rise says whether each name is above the one ahead of it.
func rise(names []string) bool {
	for i := 1; i < len(names); i++ {
		if names[i-1] >= names[i] {
			return false
		}
	}
	return true
}

// wrong is the code of what is wrong with a folder's import of a path; 0, if nothing is.
func wrong(knots map[string]int, folder, path string) int {
	knot, ok := knots[path]
	switch {
	case !ok:
		return api.DPath
	case knot == knots[folder]:
		// The folder reaches the path by this import, so they are in one knot just if the path leads back.
		return api.DCycle
	}
	return 0
}
