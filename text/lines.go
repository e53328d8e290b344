package text

import (
	"slices"
	"sync"

	"scholiast/api"
)

// lineBegins are the places at which the lines of one text begin. They are found out when they are first asked for, since most texts are edited again before anybody asks.
type lineBegins struct {
	once   sync.Once
	places []int
}

// begins tells where the text's lines begin; there is always a line 0.
func (b *Buffer) begins() []int {
	b.lines.once.Do(func() { b.lines.places = findBegins(b.pieces) })
	return b.lines.places
}

// findBegins goes through the bytes of a text that is cut into pieces.
func findBegins(pieces []string) []int {
	places := []int{0}
	begin := 0
	for _, p := range pieces {
		for i := range len(p) {
			if p[i] == '\n' {
				places = append(places, begin+i+1)
			}
		}
		begin += len(p)
	}
	return places
}

// Lines tells how many lines the text has: one more than line feeds.
func (b *Buffer) Lines() int { return len(b.begins()) }

// Line tells the piece of the line n, without a line feed.
func (b *Buffer) Line(n int) (api.Span, api.Errno) {
	begins := b.begins()
	if n < 0 || n >= len(begins) {
		return api.Span{}, api.ErrRange
	}
	end := b.length
	if n+1 < len(begins) {
		end = begins[n+1] - 1
	}
	return api.Span{From: begins[n], To: end}, api.OK
}

// Place tells in which line the place at stands, and behind how many of its bytes.
func (b *Buffer) Place(at int) (int, int, api.Errno) {
	if at < 0 || at > b.length {
		return 0, 0, api.ErrRange
	}
	begins := b.begins()
	n, found := slices.BinarySearch(begins, at)
	if !found {
		n--
	}
	return n, at - begins[n], api.OK
}

// At tells the place that stands behind column bytes of a line.
func (b *Buffer) At(line, column int) (int, api.Errno) {
	s, e := b.Line(line)
	if e != api.OK || column < 0 || column > s.To-s.From {
		return 0, api.ErrRange
	}
	return s.From + column, api.OK
}
