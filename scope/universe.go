package scope

import "scholiast/api"

// Universe tells the object of a name that is known everywhere.
func Universe(name string) (api.Object, bool) {
	o := api.Object{Name: name, Place: -1}
	switch name {
	case "bool", "string", "int", "int8", "int16", "int32", "int64", "uint", "uint8", "uint16", "uint32", "uint64",
		"byte", "rune", "error", "any", "comparable":
		o.Kind, o.Type = api.OType, universeType(name)
	case "true", "false":
		o.Kind, o.Type = api.OConst, api.Type{Kind: api.KUntyped, Name: "bool"}
		o.Value = api.Const{Kind: api.CBool, True: name == "true"}
	case "iota":
		o.Kind, o.Type = api.OConst, api.Type{Kind: api.KUntyped, Name: "int"}
	case "nil":
		o.Kind, o.Type = api.ONil, api.Type{Kind: api.KUntyped, Name: "nil"}
	case "append", "cap", "clear", "copy", "delete", "len", "make", "max", "min", "new", "panic", "print", "println", "recover":
		o.Kind = api.OBuiltin
	default:
		return api.Object{}, false
	}
	return o, true
}

// universeType is the type of that name.
func universeType(name string) api.Type {
	switch name {
	case "byte":
		return api.Type{Kind: api.KBasic, Name: "uint8"}
	case "rune":
		return api.Type{Kind: api.KBasic, Name: "int32"}
	case "error":
		return api.Type{Kind: api.KNamed, Name: "error"}
	case "any":
		return api.Type{Kind: api.KInterface}
	case "comparable":
		return api.Type{Kind: api.KInterface, Name: "comparable"}
	}
	return api.Type{Kind: api.KBasic, Name: name}
}

// Names tells all names that are known everywhere, rising.
func Names() []string {
	return []string{
		"any", "append", "bool", "byte", "cap", "clear", "comparable", "copy", "delete", "error", "false",
		"int", "int16", "int32", "int64", "int8", "iota", "len", "make", "max", "min", "new", "nil",
		"panic", "print", "println", "recover", "rune", "string", "true",
		"uint", "uint16", "uint32", "uint64", "uint8",
	}
}
