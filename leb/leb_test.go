package leb

import (
	"bytes"
	"math"
	"math/big"
	"math/rand"
	"testing"

	"dobby/api"
)

// asked is what the document says of bytes, by big numbers: the number, how many bytes or the place, and the error.
func asked(b []byte, bits int, signed bool) (*big.Int, int, api.Errno) {
	bits = min(max(bits, 1), 64)
	most := (bits + 6) / 7
	sum := big.NewInt(0)
	for i := 0; i < most; i++ {
		if i == len(b) {
			return big.NewInt(0), i, api.ErrTruncated
		}
		x := b[i]
		sign := 6
		if i == most-1 {
			left := bits - 7*i
			sign = left - 1
			beyond := byte(0)
			if signed && x>>(left-1)&1 == 1 {
				beyond = 1
			}
			if x >= 128 {
				return big.NewInt(0), i, api.ErrMalformed
			}
			for k := left; k < 7; k++ {
				if x>>k&1 != beyond {
					return big.NewInt(0), i, api.ErrMalformed
				}
			}
			x &= 1<<left - 1
		}
		sum.Add(sum, new(big.Int).Lsh(big.NewInt(int64(x&127)), uint(7*i)))
		if b[i] < 128 {
			if signed && x>>sign&1 == 1 {
				sum.Sub(sum, new(big.Int).Lsh(big.NewInt(1), uint(7*i+sign+1)))
			}
			return sum, i + 1, api.OK
		}
	}
	panic("no last byte")
}

// interesting bytes are those at which something changes.
var interesting = []byte{0, 1, 2, 3, 7, 8, 15, 16, 31, 32, 63, 64, 65, 96, 112, 120, 126, 127, 128, 129, 192, 255}

func TestTakenAsAsked(t *testing.T) {
	r := rand.New(rand.NewSource(1))
	for range 200000 {
		b := make([]byte, r.Intn(13))
		for i := range b {
			b[i] = interesting[r.Intn(len(interesting))]
			if r.Intn(3) > 0 {
				b[i] |= 128
			}
		}
		bits := r.Intn(70) - 2
		u, n, e := U(b, bits)
		if v, m, f := asked(b, bits, false); v.Cmp(new(big.Int).SetUint64(u)) != 0 || n != m || e != f {
			t.Fatalf("P1.2: U(%x, %d) = %d %d %d, not %d %d %d", b, bits, u, n, e, v, m, f)
		}
		s, n, e := S(b, bits)
		if v, m, f := asked(b, bits, true); v.Cmp(big.NewInt(s)) != 0 || n != m || e != f {
			t.Fatalf("P1.2: S(%x, %d) = %d %d %d, not %d %d %d", b, bits, s, n, e, v, m, f)
		}
	}
}

// TestSmall holds all numbers of one and two bytes against the document.
func TestSmall(t *testing.T) {
	for x := range 1 << 16 {
		b := []byte{byte(x), byte(x >> 8)}
		for bits := range 17 {
			u, n, e := U(b, bits)
			if v, m, f := asked(b, bits, false); v.Cmp(new(big.Int).SetUint64(u)) != 0 || n != m || e != f {
				t.Fatalf("P1.2: U(%x, %d) = %d %d %d", b, bits, u, n, e)
			}
			s, n, e := S(b, bits)
			if v, m, f := asked(b, bits, true); v.Cmp(big.NewInt(s)) != 0 || n != m || e != f {
				t.Fatalf("P1.2: S(%x, %d) = %d %d %d", b, bits, s, n, e)
			}
		}
	}
}

func TestExamples(t *testing.T) {
	if got := PutU(nil, 300); !bytes.Equal(got, []byte{0xac, 2}) {
		t.Errorf("P1.1: 300: %x", got)
	}
	if got := PutS(nil, -1); !bytes.Equal(got, []byte{0x7f}) {
		t.Errorf("P1.1: -1: %x", got)
	}
	if v, n, e := S([]byte{0xff, 0xff, 0xff, 0xff, 0x7f}, 32); v != -1 || n != 5 || e != api.OK {
		t.Errorf("P1.2: -1 in five bytes: %d %d %d", v, n, e)
	}
	if v, n, e := S([]byte{0xff, 0xff, 0xff, 0xff, 0x0f}, 32); v != 0 || n != 4 || e != api.ErrMalformed {
		t.Errorf("P1.2: bits beyond: %d %d %d", v, n, e)
	}
	if v, n, e := U(nil, 64); v != 0 || n != 0 || e != api.ErrTruncated {
		t.Errorf("P1.2: no bytes: %d %d %d", v, n, e)
	}
}

// numbers are those around each power of 2, and some between.
func numbers() []uint64 {
	l := []uint64{0, math.MaxUint64, math.MaxInt64, 1 << 63}
	r := rand.New(rand.NewSource(2))
	for k := range 64 {
		l = append(l, 1<<k-1, 1<<k, 1<<k+1, -(uint64(1) << k), -(uint64(1)<<k)-1, r.Uint64()>>k)
	}
	return l
}

func TestThereAndBack(t *testing.T) {
	for _, v := range numbers() {
		front := []byte("front")
		u := PutU(front, v)
		if !bytes.HasPrefix(u, front) || len(u)-5 != SizeU(v) {
			t.Fatalf("P1.1: %d: %x, %d bytes", v, u, SizeU(v))
		}
		if got, n, e := U(append(u[5:], 0xff), 64); got != v || n != SizeU(v) || e != api.OK {
			t.Fatalf("P1.3: %d: %d %d %d", v, got, n, e)
		}
		if n := SizeU(v); n > 1 && v < 1<<(7*(n-1)) {
			t.Fatalf("P1.3: %d: fewer than %d bytes would do", v, n)
		}
		w := int64(v)
		s := PutS(front, w)
		if !bytes.HasPrefix(s, front) || len(s)-5 != SizeS(w) {
			t.Fatalf("P1.1: %d: %x, %d bytes", w, s, SizeS(w))
		}
		if got, n, e := S(append(s[5:], 0xff), 64); got != w || n != SizeS(w) || e != api.OK {
			t.Fatalf("P1.3: %d: %d %d %d", w, got, n, e)
		}
		if n := SizeS(w); n > 1 && w < 1<<(7*(n-1)-1) && w >= -1<<(7*(n-1)-1) {
			t.Fatalf("P1.3: %d: fewer than %d bytes would do", w, n)
		}
	}
}
