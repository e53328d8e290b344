// Package text is layer 1: a text that is edited, its lines, and which bytes may not stand in a file.
// See shared/doc/01-text.md.
package text

import (
	"strings"

	"scholiast/api"
)

// Buffer is a text that is edited. Objects are made by New and Clone.
type Buffer struct {
	pieces []string // the text, cut; none of them is empty
	length int
	lines  lineBegins
}

// New makes a buffer with the text s.
func New(s string) (*Buffer, api.Errno) {
	if len(s) > api.MaxFile {
		return nil, api.ErrLong
	}
	b := &Buffer{}
	b.set(add(nil, s), len(s))
	return b, api.OK
}

// Clone makes a buffer of its own with the same text.
func (b *Buffer) Clone() *Buffer {
	c := &Buffer{}
	c.set(cut(nil, b.pieces, 0, b.length), b.length)
	return c
}

// Text tells the whole text.
func (b *Buffer) Text() string { return strings.Join(b.pieces, "") }

// Len tells how many bytes the text has.
func (b *Buffer) Len() int { return b.length }

// Piece tells the bytes from the place from on, ahead of to.
func (b *Buffer) Piece(from, to int) (string, api.Errno) {
	if !b.has(from, to) {
		return "", api.ErrRange
	}
	return strings.Join(cut(nil, b.pieces, from, to), ""), api.OK
}

// Apply does all edits of l, whose pieces are of the text as it is now, or none of them.
func (b *Buffer) Apply(l []api.Edit) api.Errno {
	if !b.inOrder(l) {
		return api.ErrRange
	}
	length, fits := b.lengthBehind(l)
	if !fits {
		return api.ErrLong
	}
	var edited []string
	at := 0
	for _, e := range l {
		edited = cut(edited, b.pieces, at, e.From)
		edited = add(edited, e.Text)
		at = e.To
	}
	b.set(cut(edited, b.pieces, at, b.length), length)
	return api.OK
}

// set gives the buffer another text, whose lines nobody has asked for yet.
func (b *Buffer) set(pieces []string, length int) {
	b.pieces = join(pieces)
	b.length = length
	b.lines = lineBegins{}
}

// has says whether from and to are a piece in the text.
func (b *Buffer) has(from, to int) bool {
	return 0 <= from && from <= to && to <= b.length
}

// inOrder says whether all edits are of pieces in the text, none of which begins below the end of the one ahead of it.
func (b *Buffer) inOrder(l []api.Edit) bool {
	end := 0
	for _, e := range l {
		if !b.has(e.From, e.To) || e.From < end {
			return false
		}
		end = e.To
	}
	return true
}

// lengthBehind tells how many bytes the text has behind the edits, which are in order, and whether it may have so many.
func (b *Buffer) lengthBehind(l []api.Edit) (int, bool) {
	left, put := b.length, 0
	for _, e := range l {
		// What is put in is too much by itself, whatever is taken away: so sums stay small.
		if len(e.Text) > api.MaxFile-put {
			return 0, false
		}
		put += len(e.Text)
		left -= e.To - e.From
	}
	return left + put, left+put <= api.MaxFile
}
