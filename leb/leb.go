// Package leb is layer 1, numbers by sevens: see shared/doc/01-leb.md.
package leb

import (
	"math/bits"

	"dobby/api"
)

// PutU puts v without a sign, in the fewest bytes.
func PutU(b []byte, v uint64) []byte {
	for v >= 128 {
		b = append(b, byte(v)|128)
		v >>= 7
	}
	return append(b, byte(v))
}

// PutS puts v with a sign, in the fewest bytes.
func PutS(b []byte, v int64) []byte {
	for v < -64 || v > 63 {
		b = append(b, byte(v)|128)
		v >>= 7
	}
	return append(b, byte(v)&127)
}

// SizeU is how many bytes PutU puts.
func SizeU(v uint64) int {
	return max(1, (bits.Len64(v)+6)/7)
}

// SizeS is how many bytes PutS puts: one bit more than the number has, as the sign needs one.
func SizeS(v int64) int {
	if v < 0 {
		v = ^v
	}
	return (bits.Len64(uint64(v)) + 7) / 7
}

// U is the number without a sign of so many bits with which b begins, and how many bytes it has.
func U(b []byte, bits int) (uint64, int, api.Errno) {
	return digits(b, bits, func(x byte, left int) bool {
		return x>>left == 0
	})
}

// S is the number with a sign of so many bits with which b begins, and how many bytes it has.
func S(b []byte, bits int) (int64, int, api.Errno) {
	v, n, e := digits(b, bits, func(x byte, left int) bool {
		high := x >> (left - 1)
		return high == 0 || high == 127>>(left-1)
	})
	if e != api.OK {
		return 0, n, e
	}
	unused := max(0, 64-7*n)
	return int64(v<<unused) >> unused, n, e
}

// digits adds up the digits of a number of so many bits, the lowest first.
// Only the last byte that there may be has bits beyond the number's: whether it may be x, of which so many bits are left, last tells.
func digits(b []byte, width int, last func(x byte, left int) bool) (uint64, int, api.Errno) {
	width = min(max(width, 1), 64)
	most := (width + 6) / 7
	n := min(most, len(b))
	var v uint64
	for i := range n {
		x := b[i]
		if i == most-1 && !last(x, width-7*i) {
			return 0, i, api.ErrMalformed
		}
		v |= uint64(x&127) << (7 * i)
		if x < 128 {
			return v, i + 1, api.OK
		}
	}
	return 0, n, api.ErrTruncated
}
