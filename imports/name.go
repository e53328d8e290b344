package imports

import (
	"slices"
	"strings"
)

// isFile says whether a name is made as a file's: words, the last of them with .go behind it.
func isFile(name string) bool {
	path, ok := strings.CutSuffix(name, ".go")
	words := strings.Split(path, "/")
	return ok && len(words) > 1 && !slices.ContainsFunc(words, isNoWord)
}

// isNoWord says whether a text is none of the words that paths are made of.
func isNoWord(s string) bool {
	return s == "" || strings.ContainsFunc(s, inNoWord)
}

// inNoWord says whether a character is in no word.
func inNoWord(c rune) bool {
	return c != '_' && (c < '0' || c > '9') && (c < 'a' || c > 'z')
}

// cut parts a file's name at its last slash.
func cut(name string) (string, string) {
	at := strings.LastIndexByte(name, '/')
	return name[:at], name[at+1:]
}
