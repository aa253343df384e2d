package decode

import (
	"math/rand"
	"slices"
	"strings"
	"testing"

	"dobby/api"
	"dobby/encode"
	"dobby/module"
)

// hold holds what Decode tells of b against the naive one, and tells whether it is wrong, and where.
func hold(t *testing.T, b string) (module.Module, int, api.Errno) {
	t.Helper()
	m, n, e := Decode([]byte(b))
	want, ok := naively(b)
	switch {
	case ok && (e != api.OK || n != len(b) || !m.Same(want) || !m.Right()):
		t.Fatalf("P12.1: %x is a module's: %d %d, right %v", b, n, e, m.Right())
	case !ok && e == api.OK:
		t.Fatalf("P12.1: %x is no module's", b)
	case e == api.ErrTruncated && n != len(b), e == api.ErrMalformed && n >= len(b), e < api.OK || e > api.ErrMalformed:
		t.Fatalf("P12.1: %x: %d %d", b, n, e)
	case e != api.OK && !m.Same(module.Module{}):
		t.Fatalf("P12.1: %x: an error, and a module", b)
	}
	return m, n, e
}

func TestModulesAndTheirFronts(t *testing.T) {
	r := rand.New(rand.NewSource(1))
	for range 800 {
		b := someBytes(r, 2)
		m, _, e := hold(t, b)
		if e != api.OK {
			t.Fatalf("P12.1: %x: %d", b, e)
		}
		for k := range b {
			if _, n, e := hold(t, b[:k]); e == api.ErrMalformed || n != k {
				t.Fatalf("P12.1: the front %x of %x: %d %d", b[:k], b, n, e)
			}
		}
		put, e := encode.Encode(m)
		if back, _, f := Decode(put); e != api.OK || f != api.OK || !back.Same(m) {
			t.Fatalf("P12.2: %x, put for %x: %d %d", put, b, e, f)
		}
		if len(put) > len(b) || len(put) == len(b) && string(put) > b {
			t.Fatalf("P12.2: %x, put for %x, is not the first", put, b)
		}
	}
}

// changed is b with some bytes changed, left out, or put in.
func changed(r *rand.Rand, b string) string {
	c := []byte(b)
	for range 1 + r.Intn(2) {
		k := r.Intn(len(c) + 1)
		if r.Intn(8) > 0 {
			k = 8 + r.Intn(len(c)-7)
		}
		x := []byte{0, 1, 2, 3, 5, 11, 0x40, 0x60, 0x70, 0x7f, 0x80, 0x81, 0xfc, 0xff, byte(r.Intn(256))}[r.Intn(15)]
		switch r.Intn(4) {
		case 0:
			c = slices.Insert(c, k, x)
		case 1:
			if k < len(c) && len(c) > 9 {
				c = slices.Delete(c, k, k+1)
			}
		default:
			if k < len(c) {
				c[k] = x
			}
		}
	}
	return string(c)
}

// next is with which bytes a front goes on.
func next(t *testing.T, b string) []byte {
	t.Helper()
	var l []byte
	for x := range 256 {
		_, n, e := Decode([]byte(b + string([]byte{byte(x)})))
		if e != api.ErrMalformed {
			l = append(l, byte(x))
		} else if n != len(b) {
			t.Fatalf("P5: %x: wrong at %d, but %x is a front", b, n, b)
		}
	}
	if len(l) == 0 {
		t.Fatalf("P5: nothing comes behind %x", b)
	}
	return l
}

// TestPlaces: up to the place it is a front, whatever stands behind, and with the byte there no more.
func TestPlaces(t *testing.T) {
	r := rand.New(rand.NewSource(2))
	wrongs := 0
	for i := range 12000 {
		b := changed(r, someBytes(r, 2))
		_, n, e := hold(t, b)
		if e == api.OK {
			continue
		}
		if e == api.ErrMalformed {
			if wrongs++; wrongs%2 == 0 {
				b = b[:n+1] + someBytes(r, 1)[r.Intn(8):]
			}
			if _, m, f := hold(t, b); m != n || f != e {
				t.Fatalf("P5: %x: at %d, and with other bytes behind at %d (%d)", b, n, m, f)
			}
			if _, m, f := hold(t, b[:n]); f == api.ErrMalformed || m != n {
				t.Fatalf("P12.2: %x is a front of what is wrong there: %d %d", b[:n], m, f)
			}
		}
		if i%16 == 0 {
			next(t, b[:n])
		}
	}
	if wrongs < 3000 {
		t.Errorf("%d wrong ones", wrongs)
	}
}

// TestEachFrontEnds: a front goes on byte by byte, whatever comes, up to a module.
func TestEachFrontEnds(t *testing.T) {
	r := rand.New(rand.NewSource(3))
	likely := []byte{0, 0, 0, 0, 1, 1, 2, 3, 4, 5, 11, 11, 11, 0x40, 0x60, 0x7f, 0x70, 0x80, 0xfc}
	ends := 0
	for i := range 30 {
		b := front
		if i%2 == 0 {
			b = someBytes(r, 2)
			b = b[:8+r.Intn(min(len(b)-7, 60))]
		}
		for range 80 {
			_, _, e := hold(t, b)
			if e == api.OK && r.Intn(5) == 0 {
				ends++
				break
			}
			if e == api.ErrMalformed {
				t.Fatalf("P5: %x is wrong", b)
			}
			l := next(t, b)
			x := likely[r.Intn(len(likely))]
			if !slices.Contains(l, x) {
				x = l[r.Intn(min(len(l), 20))]
			}
			b += string([]byte{x})
		}
	}
	if ends < 8 {
		t.Errorf("%d modules came out", ends)
	}
}

func TestExamples(t *testing.T) {
	for _, x := range []struct {
		b     string
		place int
		err   api.Errno
	}{
		{"", 0, api.OK},
		{"\x01\x04\x01\x60\x00\x00", 6, api.OK},
		{"\x01\x03\x01", 2, api.ErrMalformed},
		{"\x01\x81\x80\x80\x80\x00\x00", 7, api.OK},
		{"\x03\x02\x01\x07", 4, api.ErrTruncated},
		{"\x03\x02\x01\x07\x0b", 4, api.ErrMalformed},
		{"\x00\x02\x01\x80", 3, api.ErrMalformed},
		{"\x08\x80", 1, api.ErrMalformed},
		{"\x03\x02\x01\x07\x0a\x08\x01\x06\x00\x04\x40\x05\x0b\x0b", 14, api.OK},
		{"\x0c\x01\x00", 3, api.OK},
		{"\x01\x01\x00", 3, api.OK},
		{"\x0a\x01\x01", 2, api.ErrMalformed},
		// sections, and what they need
		{"\x0d", 0, api.ErrMalformed},
		{"\x01\x00", 1, api.ErrMalformed},
		{"\x00\x00", 1, api.ErrMalformed},
		{"\x00\x01\x00", 3, api.OK},
		{"\x00\x80\x80\x80\x80\x00", 5, api.ErrMalformed},
		{"\x01\x01\x00\x01", 3, api.ErrMalformed},
		{"\x02\x01\x00\x01", 3, api.ErrMalformed},
		{"\x01\x01\x00\x00\x01\x00\x02\x01\x00", 9, api.OK},
		{"\x08\x05\x80\x80\x80\x80\x00", 7, api.OK},
		{"\x08\x06", 1, api.ErrMalformed},
		{"\x08\x85\x80\x80\x80\x00\x80", 7, api.ErrTruncated},
		{"\x0c\x06", 1, api.ErrMalformed},
		{"\x0c\x01\x00\x0a\x01\x00\x0b\x01\x00", 9, api.OK},
		{"\x0a\x01\x00\x0c", 3, api.ErrMalformed},
		{"\x0b\x01\x00\x0a", 3, api.ErrMalformed},
		{"\x0b\x01\x00\x0c", 3, api.ErrMalformed},
		{"\x0c\x01\x00\x09", 3, api.ErrMalformed},
		{"\x04\x0e\x01", 2, api.ErrMalformed},
		{"\x04\x0d\x01\x70\x01\x80\x80\x80\x80\x00\x80\x80\x80\x80\x00", 15, api.OK},
		{"\x05\x0d\x01", 2, api.ErrMalformed},
		{"\x05\x0c\x01\x01\x80\x80\x80\x80\x00\x80\x80\x80\x80\x00", 14, api.OK},
		{"\x03\x07\x01", 2, api.ErrMalformed},
		{"\x03\x06\x01\x80\x80\x80\x80\x00\x00", 8, api.ErrTruncated},
		// codes are as many as Funcs
		{"\x0a\x01\x80", 2, api.ErrMalformed},
		{"\x0a\x02\x80\x00", 4, api.OK},
		{"\x0a\x05\x80\x80\x80\x80\x00", 7, api.OK},
		{"\x0a\x06", 1, api.ErrMalformed},
		{"\x03\x02\x01\x07\x00\x01\x00", 7, api.ErrTruncated},
		{"\x03\x02\x01\x07\x0a\x03", 5, api.ErrMalformed},
		{"\x03\x02\x01\x07\x0a\x04\x01\x02\x00\x0b", 10, api.OK},
		{"\x03\x02\x01\x07\x0a\x04\x00", 6, api.ErrMalformed},
		{"\x03\x02\x01\x07\x0a\x05\x81\x00\x02\x00\x0b", 11, api.OK},
		{"\x03\x02\x01\x07\x0a\x05\x82", 6, api.ErrMalformed},
		{"\x03\x02\x01\x07\x08\x01\x00", 7, api.ErrTruncated},
		{"\x03\x03\x02\x07\x07\x0a\x07\x02\x02\x00\x0b\x02\x00\x0b", 14, api.OK},
		{"\x03\x03\x02\x07\x07\x0a\x07\x02\x03", 8, api.ErrMalformed},
		{"\x03\x01\x00\x0b\x01\x00", 6, api.OK},
		// a count of Datas
		{"\x0c\x01\x01", 3, api.ErrTruncated},
		{"\x0c\x01\x01\x0b\x03\x01\x01\x00", 8, api.OK},
		{"\x0c\x01\x01\x0b\x02", 4, api.ErrMalformed},
		{"\x0c\x01\x01\x0b\x03\x00", 5, api.ErrMalformed},
		{"\x0c\x01\x01\x0b\x05\x02", 5, api.ErrMalformed},
		{"\x0c\x01\x00\x0b\x01\x00", 6, api.OK},
		{"\x0c\x01\x00\x0b\x06", 4, api.ErrMalformed},
		{"\x0b\x03\x01\x01\x00", 5, api.OK},
		// what has to do with data, and the count that it needs
		{"\x03\x02\x01\x07\x0a\x07\x01\x05\x00\xfc\x09\x00\x0b", 10, api.ErrMalformed},
		{"\x03\x02\x01\x07\x0c\x01\x00\x0a\x07\x01\x05\x00\xfc\x09\x00\x0b", 16, api.OK},
		{"\x06\x07\x01\x7f\x00\xfc\x09\x00\x0b", 9, api.ErrTruncated},
		{"\x06\x07\x01\x7f\x00\xfc\x09\x00\x0b\x0c\x01\x00", 12, api.OK},
		{"\x06\x07\x01\x7f\x00\xfc\x09\x00\x0b\x0a", 9, api.ErrMalformed},
		{"\x06\x07\x01\x7f\x00\xfc\x09\x00\x0b\x0b", 9, api.ErrMalformed},
		{"\x06\x07\x01\x7f\x00\xfc\x09\x00\x0b\x09\x01\x00\x00\x01\x00", 15, api.ErrTruncated},
		{"\x09\x07\x01\x05\x70\x01\xfc\x09\x00\x0b", 7, api.ErrMalformed},
		{"\x09\x08\x01\x05\x70\x01\xfc\x09\x00\x0b\x0b", 10, api.ErrMalformed},
		{"\x09\x08\x01\x05\x70\x01\xfc\x09\x00\x0b\x0c\x01\x00", 13, api.OK},
		{"\x09\x08\x01\x00\xfc\x09\x00\x0b\x01\x00\x0a", 10, api.ErrMalformed},
		{"\x09\x08\x01\x00\xfc\x09\x00\x0b\x01\x00\x0c", 11, api.ErrTruncated},
		{"\x0b\x08\x01\x00\xfc\x09\x00\x0b\x01x", 5, api.ErrMalformed},
		{"\x0c\x01\x01\x0b\x08\x01\x00\xfc\x09\x00\x0b\x01x", 13, api.OK},
		// great sections, of which little is there
		{"\x03\xff\xff\xff\xff\x0f\xd3\xaa\xd5\xaa\x05", 11, api.ErrTruncated},
		{"\x03\xff\xff\xff\xff\x0f\xd4\xaa\xd5\xaa\x05", 10, api.ErrMalformed},
		{"\x03\xff\xff\xff\xff\x0f\xd4\xaa\xd5\xaa\x04", 11, api.ErrTruncated},
		{"\x03\xff\xff\xff\xff\x0f\xff\xff\xff\xff\x05", 10, api.ErrMalformed},
		{"\x03\xff\xff\xff\xff\x0f\x00", 6, api.ErrMalformed},
		{"\x0c\x05\xfd\xff\xff\xff\x07", 7, api.ErrTruncated},
		{"\x0c\x05\xfe\xff\xff\xff\x07", 6, api.ErrMalformed},
		{"\x0c\x05\xfd\xff\xff\xff\x08", 6, api.ErrMalformed},
		{"\x0c\x05\xfd\xff\xff\xff\x07\x0b\xfe", 8, api.ErrMalformed},
		{"\x0c\x05\xfd\xff\xff\xff\x07\x0b\xff\xff\xff\xff\x0e", 12, api.ErrMalformed},
		{"\x0c\x05\xfd\xff\xff\xff\x07\x0b\xff\xff\xff\xff\x0f\xfd\xff\xff\xff\x07\x01\x00\x01\x00", 22, api.ErrTruncated},
		{"\x0c\x05\xfd\xff\xff\xff\x07\x0b\xff\xff\xff\xff\x0f\xfd\xff\xff\xff\x07\x01\x00\x00", 20, api.ErrMalformed},
		{"\x0c\x05\xfd\xff\xff\xff\x07\x0b\xff\xff\xff\xff\x0f\xfd\xff\xff\xff\x07\x01\x01", 19, api.ErrMalformed},
		{"\x0c\x05\xfc\xff\xff\xff\x07\x0b\xff\xff\xff\xff\x0f\xfc\xff\xff\xff\x07\x01\x02\x61\x62", 22, api.ErrTruncated},
		{"\x0c\x05\xfc\xff\xff\xff\x07\x0b\xff\xff\xff\xff\x0f\xfc\xff\xff\xff\x07\x01\x03", 19, api.ErrMalformed},
		{"\x01\xff\xff\xff\xff\x0f\xff\xff\xff\xff\x05", 10, api.ErrMalformed},
		{"\x01\xff\xff\xff\xff\x0f\xfe\xff\xff\xff\x04", 11, api.ErrTruncated},
		{"\x00\xff\xff\xff\xff\x0f\xfa\xff\xff\xff\x0f", 11, api.ErrTruncated},
		{"\x00\xff\xff\xff\xff\x0f\xfb\xff\xff\xff\x0f", 10, api.ErrMalformed},
		{"\x0b\xff\xff\xff\xff\x0f\x01\x01\xf8\xff\xff\xff\x0f", 13, api.ErrTruncated},
	} {
		want := x.place
		if x.err == api.ErrTruncated {
			want = len(x.b)
		}
		if _, n, e := hold(t, front+x.b); n != want+8 || e != x.err {
			t.Errorf("%x: %d %d, not %d %d", x.b, n-8, e, want, x.err)
		}
	}
}

func TestFirstBytes(t *testing.T) {
	for k := range 8 {
		if _, n, e := Decode([]byte(front[:k])); n != k || e != api.ErrTruncated {
			t.Errorf("P12.1: %x: %d %d", front[:k], n, e)
		}
		b := []byte(front + "\x01\x01\x00")
		b[k] ^= 1
		if _, n, e := Decode(b); n != k || e != api.ErrMalformed {
			t.Errorf("P12.1: %x: %d %d", b, n, e)
		}
		if _, n, e := Decode(b[:k+1]); n != k || e != api.ErrMalformed {
			t.Errorf("P12.1: %x: %d %d", b[:k+1], n, e)
		}
	}
	if _, n, e := Decode(nil); n != 0 || e != api.ErrTruncated {
		t.Errorf("P12.1: nothing: %d %d", n, e)
	}
}

// cutUp is where the sections of a module's bytes begin.
func cutUp(t *testing.T, b string) []string {
	l := []string{b[:8]}
	for at := 8; at < len(b); {
		p := naive{b: b, at: at + 1}
		n := int(p.u32())
		l = append(l, b[at:p.at+n])
		at = p.at + n
	}
	return l
}

func TestTake(t *testing.T) {
	r := rand.New(rand.NewSource(4))
	for range 800 {
		b := someBytes(r, 2)
		d, at := New(), 0
		for _, s := range cutUp(t, b) {
			before := d.Module()
			if _, ok := naively(b[:at]); d.Whole() != ok {
				t.Fatalf("P12.3: %x is whole: %v", b[:at], d.Whole())
			}
			for _, bad := range []string{s[:r.Intn(len(s))], changed(r, s+"\x00\x01\x02\x03\x04\x05\x06\x07\x08\x09"), "\xff", ""} {
				_, place, e := Decode([]byte(b[:at] + bad))
				other := *d
				n, f := other.Take([]byte(bad))
				switch {
				case e == api.ErrMalformed && at+n <= place && f == api.OK: // it is wrong further on
				case e == api.OK && f == api.OK, bad == "" && at >= 8 && n == 0 && f == api.ErrTruncated:
				case f == api.OK && e == api.ErrTruncated && n <= len(bad):
				case at+n != place || f != e:
					t.Fatalf("P12.3: %x, and %x: Take %d %d, Decode %d %d", b[:at], bad, n, f, place, e)
				case !other.Module().Same(before) || other.Whole() != d.Whole():
					t.Fatalf("P12.3: %x, and %x: something was taken", b[:at], bad)
				}
			}
			if n, e := d.Take([]byte(s + b[:r.Intn(9)])); n != len(s) || e != api.OK {
				t.Fatalf("P12.3: %x of %x: %d %d", s, b, n, e)
			}
			at += len(s)
		}
		m, _, _ := Decode([]byte(b))
		if !d.Whole() || !d.Module().Same(m) {
			t.Fatalf("P12.3: %x: whole %v, the same %v", b, d.Whole(), d.Module().Same(m))
		}
		if n, e := d.Take([]byte(b[:1])); n != 1 || e != api.ErrTruncated { // a custom begins so
			t.Fatalf("P12.3: one more: %d %d", n, e)
		}
	}
	d := New()
	if d.Whole() || !d.Module().Same(module.Module{}) {
		t.Error("P12.3: New has taken something")
	}
	if n, e := d.Take([]byte(front + "\x01\x01\x00")); n != 8 || e != api.OK || !d.Whole() {
		t.Errorf("P12.3: first: %d %d", n, e)
	}
}

// TestNothingIsKept: bytes that were handed in may change, and what is told stays as it was.
func TestNothingIsKept(t *testing.T) {
	r := rand.New(rand.NewSource(5))
	for range 200 {
		b := []byte(someBytes(r, 2))
		want, _, _ := Decode(slices.Clone(b))
		before := string(b)
		m, _, _ := Decode(b)
		if string(b) != before {
			t.Fatalf("R4: %x was changed", before)
		}
		for i := range b {
			b[i] = 0xee
		}
		if !m.Same(want) {
			t.Fatalf("R4: %x was kept", before)
		}
	}
	d := New()
	for _, s := range []string{front, "\x00\x02\x01a", "\x00\x02\x01b", "\x00\x02\x01c"} {
		d.Take([]byte(s))
	}
	m := d.Module()
	_ = append(m.Customs, module.Custom{Name: "x"})
	d.Take([]byte("\x00\x02\x01d"))
	_ = append(m.Customs, module.Custom{Name: "y"})
	if l := d.Module().Customs; len(l) != 4 || l[3].Name != "d" {
		t.Errorf("R4: customs: %v", l)
	}
}

// TestDeep: how deep things are has no bound but the bytes'.
func TestDeep(t *testing.T) {
	const deep = 1 << 16
	r := rand.New(rand.NewSource(6))
	body := "\x00" + strings.Repeat("\x02\x40", deep) + strings.Repeat("\x0b", deep+1)
	b := front + section(r, 3, "\x01\x00") + section(r, 10, "\x01"+longer(r, len(body))+body)
	m, n, e := Decode([]byte(b))
	if e != api.OK || n != len(b) || len(m.Codes[0].Body) != 2*deep {
		t.Fatalf("P2: %d %d", n, e)
	}
	if _, n, e := Decode([]byte(b[:len(b)-1])); e != api.ErrTruncated || n != len(b)-1 {
		t.Errorf("P2: an end too few: %d %d", n, e)
	}
}
