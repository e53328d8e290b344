package scope_test

import (
	"math/rand"
	"slices"
	"strings"
	"testing"

	"scholiast/api"
	"scholiast/file"
	"scholiast/probe"
	"scholiast/scope"
)

// grownFile is a file of grown regions; false, if it is not clean.
func grownFile(r *rand.Rand, names []string) (string, bool) {
	regions := []string{"package p\n"}
	for range 1 + r.Intn(4) {
		row := probe.Grower{R: r, Blocks: true}.Region(1 + r.Intn(4))
		text := probe.Write(r, names, row) + "\n"
		switch row[0].Kind {
		case api.NPackage:
		case api.NImport:
			regions = slices.Insert(regions, 1, text)
		default:
			regions = append(regions, text)
		}
	}
	s := strings.Join(regions, "")
	_, wrong := file.Parse(s)
	return s, len(wrong) == 0
}

// grown is a package of grown files.
func grown(r *rand.Rand) []api.Source {
	names := [][]string{{"a", "b", "_"}, {"a", "b", "c", "d", "int", "nil", "q", "init", "_"}, {"a", "b", "c", "d", "e", "f", "g", "h", "i", "j"}}[r.Intn(3)]
	var l []api.Source
	for range 1 + r.Intn(3) {
		if s, ok := grownFile(r, names); ok {
			l = append(l, api.Source{Name: "p/" + string(rune('a'+len(l))) + ".go", Text: s})
		}
	}
	return l
}

// TestGrown: P12.2 to P12.9, packages of grown files against the model.
func TestGrown(t *testing.T) {
	r := rand.New(rand.NewSource(21))
	met := map[int]int{}
	codes := map[int]int{}
	kinds := map[int]int{}
	for range 2500 {
		l := grown(r)
		trees := parsed(t, l)
		binds, diags, _ := scope.Package(l, trees)
		wantBinds, wantDiags := modelled(l, trees)
		for i := range l {
			if !slices.Equal(binds[i], wantBinds[i]) || !slices.Equal(diags[i], wantDiags[i]) {
				t.Fatalf("%d of %q:\nbinds %v\n want %v\ndiagnostics %v\n       want %v", i, l, binds[i], wantBinds[i], diags[i], wantDiags[i])
			}
			probe.Count(trees[i], met)
			for _, d := range diags[i] {
				codes[d.Code]++
			}
			for _, b := range binds[i] {
				kinds[b.Kind]++
			}
		}
	}
	for kind := api.NName; kind < api.NFile; kind++ {
		if word := probe.Word(kind); word != "" && met[kind] < 100 && kind != api.NFlat && kind != api.NBad {
			t.Errorf("%d of kind %s were tried", met[kind], word)
		}
	}
	for code := api.DAgain; code <= api.DLabels; code++ {
		if codes[code] < 100 {
			t.Errorf("%d of the code %d were tried", codes[code], code)
		}
	}
	for _, kind := range []int{api.OConst, api.OVar, api.OType, api.OFunc, api.ONil, api.OPackage} {
		if kinds[kind] < 100 {
			t.Errorf("%d of the kind %d were tried", kinds[kind], kind)
		}
	}
}
