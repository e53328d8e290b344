package text_test

import (
	"slices"
	"strings"
	"testing"

	"scholiast/api"
	"scholiast/probe"
	"scholiast/text"
)

const mark = "\xef\xbb\xbf"

// TestCheck: P1.1.
func TestCheck(t *testing.T) {
	for _, c := range []struct {
		name, text string
		want       []api.Diag
	}{
		{"empty", "", nil},
		{"plain", "package p\n\tvar x = \"a\"\r\n\x01\x7f", nil},
		{"forms of two, three and four bytes", "\u0080\u07ff\u0800\ud7ff\ue000\uffff\U00010000\U0010ffff", nil},
		{"the character that stands for a fault", "\ufffd", nil},
		{"neighbours of the mark", "a\ufefe\uff00", nil},
		{"example", "a\x00\xff" + mark, probe.Diags(api.DNul, 1, 2, api.DUTF8, 2, 3, api.DMark, 3, 6)},
		{"a mark at the beginning", mark, nil},
		{"two marks", mark + mark, probe.Diags(api.DMark, 3, 6)},
		{"a mark behind a byte", "a" + mark + "b" + mark, probe.Diags(api.DMark, 1, 4, api.DMark, 5, 8)},
		{"a mark cut short", "\xef\xbb", probe.Diags(api.DUTF8, 0, 1, api.DUTF8, 1, 2)},
		{"a mark behind a wrong byte", "\xef" + mark, probe.Diags(api.DUTF8, 0, 1, api.DMark, 1, 4)},
		{"a zero alone, and zeros", "\x00a\x00\x00", probe.Diags(api.DNul, 0, 1, api.DNul, 2, 3, api.DNul, 3, 4)},
		{"halves, the lowest and the highest", "\xed\xa0\x80\xed\xbf\xbf", probe.Diags(api.DUTF8, 0, 1, api.DUTF8, 1, 2, api.DUTF8, 2, 3, api.DUTF8, 3, 4, api.DUTF8, 4, 5, api.DUTF8, 5, 6)},
		{"a long form of 0", "\xc0\x80", probe.Diags(api.DUTF8, 0, 1, api.DUTF8, 1, 2)},
		{"a long form of 7F", "\xc1\xbf", probe.Diags(api.DUTF8, 0, 1, api.DUTF8, 1, 2)},
		{"a long form of 7FF", "\xe0\x9f\xbf", probe.Diags(api.DUTF8, 0, 1, api.DUTF8, 1, 2, api.DUTF8, 2, 3)},
		{"a long form of FFFF", "\xf0\x8f\xbf\xbf", probe.Diags(api.DUTF8, 0, 1, api.DUTF8, 1, 2, api.DUTF8, 2, 3, api.DUTF8, 3, 4)},
		{"110000", "\xf4\x90\x80\x80", probe.Diags(api.DUTF8, 0, 1, api.DUTF8, 1, 2, api.DUTF8, 2, 3, api.DUTF8, 3, 4)},
		{"bytes that begin nothing", "\x80\xbf\xf5\xfe", probe.Diags(api.DUTF8, 0, 1, api.DUTF8, 1, 2, api.DUTF8, 2, 3, api.DUTF8, 3, 4)},
		{"a form that another character ends", "\xe2\x82a\xc3", probe.Diags(api.DUTF8, 0, 1, api.DUTF8, 1, 2, api.DUTF8, 3, 4)},
	} {
		if got := text.Check(c.text); !slices.Equal(got, c.want) {
			t.Errorf("%s: %v, want %v", c.name, got, c.want)
		}
	}
}

// TestCheckLong: P1.1 is of texts of any length.
func TestCheckLong(t *testing.T) {
	s := strings.Repeat("a", 2*api.MaxFile) + "\x00"
	if got := text.Check(s); !slices.Equal(got, probe.Diags(api.DNul, len(s)-1, len(s))) {
		t.Error(got)
	}
}

// TestCheckNew: R3, an answer is new memory.
func TestCheckNew(t *testing.T) {
	first := text.Check("\x00\xff")
	first[0], first[1] = api.Diag{}, api.Diag{}
	if got := text.Check("\x00\xff"); !slices.Equal(got, probe.Diags(api.DNul, 0, 1, api.DUTF8, 1, 2)) {
		t.Error(got)
	}
}

// character tells the number and the width of the form that stands at the beginning of s, worked out from the bits as P1.1 tells it; of a wrong byte -1 and 1.
func character(s string) (int, int) {
	for width, form := range map[int]struct{ head, mask, lowest, highest int }{
		1: {0x00, 0x80, 0, 0x7F},
		2: {0xC0, 0xE0, 0x80, 0x7FF},
		3: {0xE0, 0xF0, 0x800, 0xFFFF},
		4: {0xF0, 0xF8, 0x10000, 0x10FFFF},
	} {
		if len(s) < width || int(s[0])&form.mask != form.head {
			continue
		}
		n, fits := int(s[0])&^form.mask, true
		for i := 1; i < width; i++ {
			fits = fits && s[i]&0xC0 == 0x80
			n = n<<6 | int(s[i])&0x3F
		}
		if fits && form.lowest <= n && n <= form.highest && (n < 0xD800 || n > 0xDFFF) {
			return n, width
		}
	}
	return -1, 1
}

// told is P1.1, worked out by character.
func told(s string) []api.Diag {
	var l []api.Diag
	for at := 0; at < len(s); {
		n, width := character(s[at:])
		switch {
		case n < 0:
			l = append(l, probe.Diags(api.DUTF8, at, at+1)...)
		case n == 0:
			l = append(l, probe.Diags(api.DNul, at, at+1)...)
		case n == 0xFEFF && at != 0:
			l = append(l, probe.Diags(api.DMark, at, at+3)...)
		}
		at += width
	}
	return l
}

// TestCheckAll: P1.1 at all texts of four bytes that stand at the borders of what fits.
func TestCheckAll(t *testing.T) {
	border := "\x00\x0aa\x7f\x80\x8f\x90\x9f\xa0\xbb\xbd\xbf\xc0\xc1\xc2\xdf\xe0\xed\xef\xf0\xf4\xf5\xff"
	n := len(border)
	for i := range n * n * n * n {
		s := string([]byte{border[i%n], border[i/n%n], border[i/n/n%n], border[i/n/n/n]})
		if got, want := text.Check(s), told(s); !slices.Equal(got, want) {
			t.Fatalf("%x: %v, want %v", s, got, want)
		}
	}
}
