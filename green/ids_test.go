package green

import (
	"math"
	"slices"
	"testing"
)

// TestPacked: P8.7, numbers as high as the document lets them be are kids' numbers, each told as it was; lists that are not the same are packed to texts that are not.
func TestPacked(t *testing.T) {
	numbers := []int{0, 1, 255, 256, 257, 65535, 65536, 1<<24 - 1, 1 << 24, 1<<24 + 256, math.MaxInt32 - 1, math.MaxInt32}
	lists := [][]int{nil}
	for _, a := range numbers {
		lists = append(lists, []int{a})
		for _, b := range numbers {
			lists = append(lists, []int{a, b})
		}
	}
	met := map[string]int{}
	for i, l := range lists {
		var packed []byte
		for _, id := range l {
			packed = appendID(packed, id)
		}
		if got := unpacked(string(packed)); !slices.Equal(got, l) {
			t.Errorf("%v is told as %v", l, got)
		}
		if other, ok := met[string(packed)]; ok {
			t.Errorf("%v is packed like %v", l, lists[other])
		}
		met[string(packed)] = i
	}
}
