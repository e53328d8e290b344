package token_test

import (
	"strconv"
	"strings"
	"testing"

	"scholiast/probe"
	"scholiast/token"
)

// TestDigits: P2.5, numbers of all bases, and texts that are none.
func TestDigits(t *testing.T) {
	long := strings.Repeat("1_0", 5000)
	for _, c := range []struct {
		text   string
		base   int
		digits string
	}{
		{"0x_Ff", 16, "Ff"}, {"0_17", 8, "17"}, {"017", 8, "17"}, {"0", 10, "0"}, {"00", 8, "0"},
		{"7", 10, "7"}, {"10", 10, "10"}, {"1234567890", 10, "1234567890"}, {"1_2_34", 10, "1234"},
		{"0b0", 2, "0"}, {"0B_1_0", 2, "10"}, {"0o17", 8, "17"}, {"0O_7_7", 8, "77"}, {"0X0", 16, "0"},
		{"0x0123456789abcdefABCDEF", 16, "0123456789abcdefABCDEF"}, {"0xb", 16, "b"}, {"0x_B_0", 16, "B0"},
		{"0_0", 8, "0"}, {"01234567", 8, "1234567"}, {"000", 8, "00"}, {"0b000", 2, "000"}, {"0_0_1", 8, "01"},
		{long, 10, strings.ReplaceAll(long, "_", "")}, {"0x" + long, 16, strings.ReplaceAll(long, "_", "")},
	} {
		if base, digits, ok := token.Digits(c.text); base != c.base || digits != c.digits || !ok {
			t.Errorf("Digits(%.20q): %d, %.20q, %v, want %d, %.20q", c.text, base, digits, ok, c.base, c.digits)
		}
	}
	for _, s := range []string{
		"", "08", "1__0", "1_", "0b", "_", "__", "_1", "_0", "0_", "0__", "0__1", "0_1_", "09", "0_8", "00_", "018", "0_b1",
		"0B", "0o", "0O", "0x", "0X", "0b_", "0o_", "0x_", "0b__1", "0x__f", "0x1__2", "0x1_", "0b2", "0b12", "0o8", "0o18", "0xg", "0xG", "0x1G", "0b1f",
		"0x0x1", "0bx1", "00x1", "0b0b1", "1x0", "1b1", "x1", "a", "f", "F", "1a", "1e5", "1.5", "0.", ".1", "1i", "0x1p1",
		"-1", "+1", "-0", " 1", "1 ", "1\n", "0x 1", "1,0", "1'0", "1\x00", "\x00", "\xff", "1\xff", "\u0661", "1\u0661", "0\u0661", "/", ":", "0/", "0:", "0x@", "0x`", "0x/", "0x:",
		long + "_", "0b" + long + "2", "0" + long + "9",
	} {
		if base, digits, ok := token.Digits(s); base != 0 || digits != "" || ok {
			t.Errorf("Digits(%.20q): %d, %.20q, %v", s, base, digits, ok)
		}
	}
}

// TestDigitsAll: P2.5, at all texts of up to five bytes of numbers, held against the library.
func TestDigitsAll(t *testing.T) {
	probe.Every("01789afFgxXbBoO_", 5, func(s string) {
		want, err := strconv.ParseUint(s, 0, 64)
		base, digits, ok := token.Digits(s)
		if ok != (err == nil) {
			t.Fatalf("Digits(%q): %d, %q, %v", s, base, digits, ok)
		}
		if !ok {
			return
		}
		if got, err := strconv.ParseUint(digits, base, 64); err != nil || got != want {
			t.Fatalf("Digits(%q): %d, %q", s, base, digits)
		}
		if all := strings.ReplaceAll(s, "_", ""); !strings.HasSuffix(all, digits) {
			t.Fatalf("Digits(%q): %q are not its digits as they are written", s, digits)
		}
	})
}
