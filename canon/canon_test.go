package canon

import (
	"bytes"
	"testing"

	"dobby/api"
	"dobby/decode"
)

const front = "\x00asm\x01\x00\x00\x00"

// groups are bytes of one module each, behind the front, the first being how it is written.
func groups() [][]string {
	return [][]string{
		{"", "\x01\x81\x80\x80\x80\x00\x00", "\x01\x01\x00", "\x03\x02\x80\x00\x0a\x01\x00\x0b\x01\x00", "\x02\x05\x80\x80\x80\x80\x00"},
		{"\x0c\x01\x00", "\x0c\x02\x80\x00", "\x0c\x81\x00\x00\x0b\x01\x00", "\x0c\x01\x00\x0a\x01\x00"},
		{"\x08\x01\x00", "\x08\x02\x80\x00", "\x07\x01\x00\x08\x01\x00"},
		{"\x01\x01\x00\x00\x01\x00", "\x01\x02\x80\x00\x00\x01\x00", "\x01\x01\x00\x00\x02\x80\x00"},
		{"\x00\x01\x00", "\x00\x01\x00\x01\x01\x00", "\x00\x81\x00\x00"},
		{"\x01\x01\x00\x00\x01\x00\x00\x01\x00", "\x01\x01\x00\x00\x01\x00\x00\x01\x00\x02\x01\x00"},
		{"\x02\x01\x00\x00\x01\x00", "\x01\x01\x00\x02\x01\x00\x00\x01\x00"},
		{"\x01\x04\x01\x60\x00\x00", "\x01\x05\x81\x00\x60\x00\x00", "\x01\x05\x01\x60\x80\x00\x00", "\x01\x84\x00\x01\x60\x00\x00"},
		{"\x09\x04\x01\x00\x0b\x00", "\x09\x06\x01\x02\x00\x0b\x00\x00", "\x09\x04\x01\x04\x0b\x00", "\x09\x06\x01\x06\x00\x0b\x70\x00", "\x09\x05\x01\x80\x00\x0b\x00"},
		{"\x09\x05\x01\x01\x00\x01\x07", "\x09\x07\x01\x05\x70\x01\xd2\x07\x0b", "\x09\x06\x01\x01\x00\x01\x87\x00"},
		{"\x09\x07\x01\x05\x6f\x01\xd2\x07\x0b", "\x09\x08\x01\x05\x6f\x01\xd2\x87\x00\x0b"},
		{"\x09\x04\x01\x03\x00\x00", "\x09\x04\x01\x07\x70\x00"},
		{"\x0b\x04\x01\x00\x0b\x00", "\x0b\x05\x01\x02\x00\x0b\x00"},
		{"\x0b\x05\x01\x02\x01\x0b\x00", "\x0b\x06\x01\x02\x81\x00\x0b\x00"},
		{"\x0b\x03\x01\x01\x00", "\x0b\x04\x01\x81\x00\x00"},
		{"\x03\x02\x01\x00\x0a\x06\x01\x04\x01\x03\x7f\x0b", "\x03\x02\x01\x00\x0a\x08\x01\x06\x02\x01\x7f\x02\x7f\x0b", "\x03\x02\x01\x00\x0a\x0c\x01\x0a\x04\x00\x7e\x01\x7f\x00\x7e\x02\x7f\x0b"},
		{"\x03\x02\x01\x00\x0a\x07\x01\x05\x00\x04\x40\x0b\x0b", "\x03\x02\x01\x00\x0a\x08\x01\x06\x00\x04\x40\x05\x0b\x0b"},
		{"\x06\x06\x01\x7f\x00\x41\x00\x0b", "\x06\x07\x01\x7f\x00\x41\x80\x00\x0b"},
		{"\x06\x06\x01\x7f\x00\x41\x7f\x0b", "\x06\x07\x01\x7f\x00\x41\xff\x7f\x0b", "\x06\x0a\x01\x7f\x00\x41\xff\xff\xff\xff\x7f\x0b"},
	}
}

func TestGroups(t *testing.T) {
	var all, first []string
	for _, g := range groups() {
		for _, s := range g {
			all, first = append(all, front+s), append(first, front+g[0])
		}
	}
	for i, s := range all {
		before := []byte(s)
		w, n, e := Canon(before)
		if string(w) != first[i] || n != len(s) || e != api.OK || string(before) != s {
			t.Errorf("P13.1: Canon(%x) = %x %d %d, not %x", s, w, n, e, first[i])
		}
		if Is([]byte(s)) != (s == first[i]) {
			t.Errorf("P13.1: Is(%x) = %v", s, Is([]byte(s)))
		}
		for j, o := range all {
			if Alike([]byte(s), []byte(o)) != (first[i] == first[j]) {
				t.Errorf("P13.1: Alike(%x, %x) = %v", s, o, first[i] != first[j])
			}
		}
		if again, _, _ := Canon(w); !bytes.Equal(again, w) {
			t.Errorf("P13.2: %x, written again: %x", w, again)
		}
		if len(w) > len(s) || len(w) == len(s) && string(w) > s {
			t.Errorf("P13.2: %x is written as %x", s, w)
		}
	}
}

func TestWrong(t *testing.T) {
	good := []byte(front)
	for _, s := range []string{"", "\x00as", "\x00asn", front + "\x01\x03\x01", front + "\x03\x02\x01\x07", front + "\x0c\x01\x01"} {
		_, place, want := decode.Decode([]byte(s))
		if w, n, e := Canon([]byte(s)); len(w) != 0 || n != place || e != want || e == api.OK {
			t.Errorf("P13.1: Canon(%x) = %x %d %d", s, w, n, e)
		}
		b := []byte(s)
		if Is(b) || Alike(b, b) || Alike(b, good) || Alike(good, b) {
			t.Errorf("P13.1: %x is no module", s)
		}
	}
	if !Is(good) || !Alike(good, good) {
		t.Error("P13.1: a module without anything")
	}
}

// TestShortest goes through all short bytes of a few: each module is written as the first of those with the fewest bytes.
func TestShortest(t *testing.T) {
	few := []byte{0, 1, 2, 3, 5, 8, 9, 10, 11, 12, 0x80, 0x81}
	shortest := map[string]string{}
	var all []string
	level := []string{front}
	for range 7 {
		var longer []string
		for _, s := range level {
			w, _, e := Canon([]byte(s))
			if e == api.OK {
				all = append(all, s)
				if before, ok := shortest[string(w)]; !ok || len(s) < len(before) || len(s) == len(before) && s < before {
					shortest[string(w)] = s
				}
			}
			if e != api.ErrMalformed {
				for _, x := range few {
					longer = append(longer, s+string([]byte{x}))
				}
			}
		}
		level = longer
	}
	if len(all) < 100 || len(shortest) < 20 {
		t.Fatalf("%d modules' bytes, %d modules", len(all), len(shortest))
	}
	for w, s := range shortest {
		if w != s {
			t.Errorf("P4: %x is written as %x", s, w)
		}
	}
}
