package ascii_test

import (
	"strings"
	"testing"

	"quayside/ascii"
)

// surround calls f with every byte alone, and at each place among others.
func surround(f func(c byte, text, before, after string)) {
	for c := range 256 {
		s := string([]byte{byte(c)})
		for _, p := range [][2]string{{"", ""}, {"x", ""}, {"", "x"}, {"x", "\xffx"}} {
			f(byte(c), s, p[0], p[1])
		}
	}
}

func TestLowerChangesTheLettersAlone(t *testing.T) { // P1.1, P2.1
	surround(func(c byte, text, before, after string) {
		want := text
		if at := strings.IndexByte("ABCDEFGHIJKLMNOPQRSTUVWXYZ", c); at >= 0 {
			want = "abcdefghijklmnopqrstuvwxyz"[at : at+1]
		}
		if got := ascii.Lower(before + text + after); got != before+want+after {
			t.Errorf("Lower(%q) = %q", before+text+after, got)
		}
	})
	// The sign of the kelvin and the letter I with a dot have lower cases in Unicode.
	for _, s := range []string{"", "\u212a", "\u0130", "\u00c9", "\xc3", "a\u212ab"} {
		if got := ascii.Lower(s); got != s {
			t.Errorf("Lower(%q) = %q", s, got)
		}
	}
}

func TestIsControlAndHasControl(t *testing.T) { // P1.1, P2.1, P7.1
	surround(func(c byte, text, before, after string) {
		want := c < 9 || c > 9 && c < 32 || c == 127
		if got := ascii.IsControl(c); got != want {
			t.Errorf("IsControl(%q) = %v", c, got)
		}
		if got := ascii.HasControl(before + text + after); got != want {
			t.Errorf("HasControl(%q) = %v", before+text+after, got)
		}
	})
	if ascii.HasControl("") {
		t.Error("HasControl of the empty string")
	}
}

func TestIsDigitAndIsAlphanumeric(t *testing.T) { // P1.1, P3.1
	const digits = "0123456789"
	const letters = "abcdefghijklmnopqrstuvwxyzABCDEFGHIJKLMNOPQRSTUVWXYZ"
	for i := range 256 {
		c := byte(i)
		if got, want := ascii.IsDigit(c), strings.IndexByte(digits, c) >= 0; got != want {
			t.Errorf("IsDigit(%q) = %v", c, got)
		}
		if got, want := ascii.IsAlphanumeric(c), strings.IndexByte(digits+letters, c) >= 0; got != want {
			t.Errorf("IsAlphanumeric(%q) = %v", c, got)
		}
	}
}

func TestTrim(t *testing.T) { // P1.1, P2.1
	for _, c := range []struct{ s, want string }{
		{"", ""},
		{" ", ""},
		{"\t", ""},
		{" \t \t", ""},
		{"a", "a"},
		{" \ta\t b \t", "a\t b"},
		{"\n a \r", "\n a \r"},
		{"\u00a0a\u2003", "\u00a0a\u2003"},
		{"\xff ", "\xff"},
	} {
		if got := ascii.Trim(c.s); got != c.want {
			t.Errorf("Trim(%q) = %q; want %q", c.s, got, c.want)
		}
	}
}
