package probe

import (
	"strings"

	"scholiast/api"
	"scholiast/token"
)

// Write writes down nodes whose leaves have kinds alone, with blanks between: its names are some of those that are told, and so are what its texts say. An inserted semicolon is written.
func Write(r Choice, names []string, row []api.Node) string {
	var words []string
	for _, t := range Leaves(row) {
		words = append(words, spelling(t.Kind, names[r.Intn(len(names))]))
	}
	return strings.Join(words, " ")
}

// spelling is how a token of a kind is written that says the name, if it says any.
func spelling(kind int, name string) string {
	switch kind {
	case api.TIdent:
		return name
	case api.TInt:
		return "1"
	case api.TRune:
		return "'a'"
	case api.TString:
		return `"` + name + `"`
	case api.TRaw:
		return "`" + name + "`"
	case api.TAuto:
		return ";"
	}
	return token.Name(kind)
}
