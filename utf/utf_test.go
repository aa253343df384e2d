package utf

import (
	"testing"
	"unicode/utf8"
)

// TestNeedOfFronts goes through the fronts of signs, which need what lacks of them.
func TestNeedOfFronts(t *testing.T) {
	for r := range rune(utf8.MaxRune + 1) {
		if r >= 0xd800 && r <= 0xdfff {
			continue
		}
		if r > 0x900 && r < 0xd000 && r%61 != 0 || r > 0x11000 && r < 0x10f000 && r%997 != 0 {
			continue
		}
		sign := string(r)
		for k := 1; k <= len(sign); k++ {
			for _, ahead := range []string{"", "a", "é", "ab€"} {
				want := len(sign) - k
				if n, ok := Need(ahead + sign[:k]); n != want || !ok {
					t.Fatalf("P3.1: Need(%x) = %d %v, not %d", ahead+sign[:k], n, ok, want)
				}
				if Valid(ahead+sign[:k]) != (want == 0) {
					t.Fatalf("P3.1: Valid(%x)", ahead+sign[:k])
				}
			}
		}
	}
}

func TestWrong(t *testing.T) {
	for _, s := range []string{
		"\x80", "\xbf", "\xc0", "\xc1", "\xc0\x80", "\xc1\xbf", "\xc2\x7f", "\xc2\xc0", "\xdf\x00",
		"\xe0\x80", "\xe0\x9f", "\xe0\x9f\xbf", "\xe0\xc0", "\xe1\x7f", "\xe2\x82\x7f", "\xe2\x82\xc0",
		"\xed\xa0", "\xed\xa0\x80", "\xed\xbf\xbf", "\xf0\x80", "\xf0\x8f", "\xf0\x8f\xbf\xbf", "\xf0\x90\x7f", "\xf0\x90\x80\x7f",
		"\xf4\x90", "\xf4\x90\x80\x80", "\xf5", "\xf7", "\xf8", "\xff", "a\xff", "é\x80", "\xe2\x82a", "\xc3\xc3",
	} {
		if n, ok := Need(s); n != 0 || ok || Valid(s) {
			t.Errorf("P3.1: Need(%x) = %d %v", s, n, ok)
		}
		if n, ok := Need(s + "\x80\x80a"); n != 0 || ok {
			t.Errorf("P3.2: Need(%x) = %d %v, though its front is none", s+"\x80\x80a", n, ok)
		}
	}
}

// TestAllShort goes through all of two bytes, and those of four bytes that have something to do with signs.
func TestAllShort(t *testing.T) {
	check := func(s string) {
		n, ok := Need(s)
		if Valid(s) != utf8.ValidString(s) || Valid(s) != (ok && n == 0) {
			t.Fatalf("P3.2: Valid(%x) = %v, Need %d %v", s, Valid(s), n, ok)
		}
		if _, front := Need(s[:len(s)-1]); ok && !front {
			t.Fatalf("P3.2: Need(%x) is wrong, though more is a front", s[:len(s)-1])
		}
	}
	for x := range 1 << 16 {
		check(string([]byte{byte(x), byte(x >> 8)}))
	}
	some := []byte{0, 'a', 0x7f, 0x80, 0x8f, 0x90, 0x9f, 0xa0, 0xbf, 0xc0, 0xc1, 0xc2, 0xdf, 0xe0, 0xe1, 0xec, 0xed, 0xee, 0xef, 0xf0, 0xf1, 0xf3, 0xf4, 0xf5, 0xff}
	for _, a := range some {
		for _, b := range some {
			for _, c := range some {
				for _, d := range some {
					check(string([]byte{a, b, c, d}))
				}
			}
		}
	}
	if n, ok := Need(""); n != 0 || !ok || !Valid("") {
		t.Error("P3.1: no bytes are a text")
	}
	if n, ok := Need("\xe2"); n != 2 || !ok {
		t.Errorf("P3.1: E2: %d %v", n, ok)
	}
}
