package scope_test

import (
	"reflect"
	"slices"
	"strings"
	"testing"

	"scholiast/api"
	"scholiast/scope"
)

// universe is P12.1's list.
func universe() map[string]api.Object {
	m := map[string]api.Object{}
	add := func(kind int, typ api.Type, value api.Const, names string) {
		for _, name := range strings.Fields(names) {
			o := api.Object{Name: name, Kind: kind, Type: typ, Value: value, Place: -1}
			if typ.Kind == api.KBasic && typ.Name == "" {
				o.Type.Name = name
			}
			m[name] = o
		}
	}
	none := api.Const{}
	add(api.OType, api.Type{Kind: api.KBasic}, none, "bool string int int8 int16 int32 int64 uint uint8 uint16 uint32 uint64")
	add(api.OType, api.Type{Kind: api.KBasic, Name: "uint8"}, none, "byte")
	add(api.OType, api.Type{Kind: api.KBasic, Name: "int32"}, none, "rune")
	add(api.OType, api.Type{Kind: api.KNamed, Name: "error"}, none, "error")
	add(api.OType, api.Type{Kind: api.KInterface}, none, "any")
	add(api.OType, api.Type{Kind: api.KInterface, Name: "comparable"}, none, "comparable")
	add(api.OConst, api.Type{Kind: api.KUntyped, Name: "bool"}, api.Const{Kind: api.CBool, True: true}, "true")
	add(api.OConst, api.Type{Kind: api.KUntyped, Name: "bool"}, api.Const{Kind: api.CBool}, "false")
	add(api.OConst, api.Type{Kind: api.KUntyped, Name: "int"}, none, "iota")
	add(api.ONil, api.Type{Kind: api.KUntyped, Name: "nil"}, none, "nil")
	add(api.OBuiltin, api.Type{}, none, "append cap clear copy delete len make max min new panic print println recover")
	return m
}

// TestUniverse: P12.1, what is known everywhere, and all of its names, rising.
func TestUniverse(t *testing.T) {
	want := universe()
	for name, o := range want {
		if got, ok := scope.Universe(name); !ok || !reflect.DeepEqual(got, o) {
			t.Errorf("%s: %v, %v, want %v", name, got, ok, o)
		}
	}
	var names []string
	for name := range want {
		names = append(names, name)
	}
	slices.Sort(names)
	if got := scope.Names(); !slices.Equal(got, names) {
		t.Errorf("%v, want %v", got, names)
	}
}

// TestNotUniverse: P12.1, of all other names there is nothing.
func TestNotUniverse(t *testing.T) {
	others := strings.Fields("_ uintptr float32 float64 complex64 complex128 complex real imag close chan func type nil_ Nil Int NIL true1 unsafe p ıota")
	others = append(others, "", " ", "int ", " int", "int\x00", "any any", "\xff", "iota\n")
	for name := range universe() {
		others = append(others, name+"x", "x"+name, strings.ToUpper(name), name[:len(name)-1]+"_", name+" ")
	}
	for _, name := range others {
		if got, ok := scope.Universe(name); ok || !reflect.DeepEqual(got, api.Object{}) {
			t.Errorf("%q: %v, %v", name, got, ok)
		}
	}
}

// TestNamesNew: R3, each answer of Names is a list of its own.
func TestNamesNew(t *testing.T) {
	want := slices.Clone(scope.Names())
	l := scope.Names()
	for i := range l {
		l[i] = "no"
	}
	if got := scope.Names(); !slices.Equal(got, want) {
		t.Errorf("%v", got)
	}
}
