package file

import (
	"strconv"
	"testing"

	"scholiast/api"
)

// TestKept: what is kept is what stands in the text as it is now, however often it was edited, each region once.
func TestKept(t *testing.T) {
	f, _ := New("package p;")
	for i := range 100 {
		n := len(f.Text())
		f.Edit([]api.Edit{{From: 10, To: n, Text: "var x" + strconv.Itoa(i) + " int;x;x;"}})
		if got := len(f.contents.regions); got != 3 {
			t.Fatalf("%q: %d regions are kept", f.Text(), got)
		}
	}
	f.Edit([]api.Edit{{From: 0, To: len(f.Text())}})
	if got := len(f.contents.regions); got != 0 {
		t.Errorf("%d regions are kept of an empty text", got)
	}
}
