package text

import "strings"

// maxPieces bounds the list of pieces: without it, many small edits would keep alive a text each, and make each further step walk over all of them.
const maxPieces = 64

// add puts s behind the pieces of l, if it has bytes.
func add(l []string, s string) []string {
	if s == "" {
		return l
	}
	return append(l, s)
}

// cut puts what stands from .. to in the text that the pieces are behind those of l.
func cut(l, pieces []string, from, to int) []string {
	begin := 0
	for _, p := range pieces {
		if begin >= to {
			break
		}
		end := begin + len(p)
		if from < end {
			l = add(l, p[max(from-begin, 0):min(to-begin, len(p))])
		}
		begin = end
	}
	return l
}

// join makes a list of too many pieces a list of one.
func join(l []string) []string {
	if len(l) <= maxPieces {
		return l
	}
	return []string{strings.Join(l, "")}
}
