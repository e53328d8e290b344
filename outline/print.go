package outline

import (
	"strings"

	"scholiast/api"
)

// Print writes an outline down, a line for each thing that it says.
func Print(o api.Outline) string {
	var b strings.Builder
	b.WriteString("package " + o.Package.Name + "\n")
	for _, i := range o.Imports {
		printImport(&b, i)
	}
	for _, d := range o.Decls {
		printDecl(&b, d)
	}
	return b.String()
}

func printImport(b *strings.Builder, i api.Import) {
	b.WriteString("import ")
	if i.Name != "" {
		b.WriteString(i.Name + " ")
	}
	b.WriteString(`"` + i.Path + "\"\n")
}

func printDecl(b *strings.Builder, d api.Decl) {
	b.WriteString(word(d.Kind))
	if d.Recv != "" {
		b.WriteString(" (")
		if d.Ptr {
			b.WriteString("*")
		}
		b.WriteString(d.Recv + ")")
	}
	for _, name := range d.Names {
		b.WriteString(" " + name.Name)
	}
	b.WriteString("\n")
}

// word is what a declaration of that kind begins with.
func word(kind int) string {
	switch kind {
	case api.OConst:
		return "const"
	case api.OVar:
		return "var"
	case api.OType:
		return "type"
	}
	return "func"
}
