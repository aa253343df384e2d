package expr

import (
	"math/rand"
	"slices"
	"strings"
	"testing"

	"dobby/api"
	"dobby/cursor"
	"dobby/instr"
	"dobby/op"
	"dobby/span"
	"dobby/wtype"
)

func of(code uint32) instr.Instr { return instr.Instr{Op: op.Op{Code: code}} }

// piece is an instruction, and its bytes, perhaps more than it needs.
type piece struct {
	i instr.Instr
	b string
}

func simple() []piece {
	return []piece{
		{of(0x01), "\x01"},
		{of(0x00), "\x00"},
		{instr.Instr{Op: op.Op{Code: 0x41}, N: 5}, "\x41\x85\x00"},
		{instr.Instr{Op: op.Op{Code: 0x20}, X: 11}, "\x20\x0b"},
		{instr.Instr{Op: op.Op{Code: 0x0e}, List: []uint32{5, 4}, X: 3}, "\x0e\x82\x00\x05\x04\x03"},
		{instr.Instr{Op: op.Op{Prefix: 0xfd, Code: 0x80}}, "\xfd\x80\x81\x00"},
		{instr.Instr{Op: op.Op{Prefix: 0xfc, Code: 8}, X: 1}, "\xfc\x88\x00\x01\x00"},
		{instr.Instr{Op: op.Op{Prefix: 0xfc, Code: 9}, X: 2}, "\xfc\x09\x02"},
		{instr.Instr{Op: op.Op{Prefix: 0xfc, Code: 2}}, "\xfc\x02"},
		{instr.Instr{Op: op.Op{Code: 0x1c}, Types: []wtype.Val{wtype.I32}}, "\x1c\x01\x7f"},
	}
}

// some is a right expression without its end, as it is told, and as it stands.
func some(r *rand.Rand, deep int) ([]instr.Instr, string) {
	var l []instr.Instr
	b := ""
	for range r.Intn(4) {
		kind := r.Intn(6)
		if kind > 3 || deep == 0 {
			p := simple()[r.Intn(len(simple()))]
			l, b = append(l, p.i), b+p.b
			continue
		}
		code := uint32(2 + min(kind, 2))
		inner, s := some(r, deep-1)
		l, b = append(append(l, of(code)), inner...), b+string([]byte{byte(code), 0x40})+s
		if code == 4 && r.Intn(2) == 0 {
			other, s := some(r, deep-1)
			if b += "\x05" + s; len(other) > 0 {
				l = append(append(l, of(5)), other...)
			}
		}
		l, b = append(l, of(0x0b)), b+"\x0b"
	}
	return l, b
}

// told is what reading b tells, within so many bytes; whole: the expression was read.
func told(b string, limit int, behind span.Span, data bool) (l []instr.Instr, n int, e api.Errno, whole bool) {
	n, e = cursor.Try([]byte(b), func(c *cursor.Cursor) {
		c.Within(limit, func() {
			l = Read(c, behind, data)
			whole = behind.Has(c.Rest())
			c.Raw(c.Rest())
		})
	})
	return l, n, e, whole
}

func TestReadInMoreBytes(t *testing.T) {
	r := rand.New(rand.NewSource(1))
	for range 1500 {
		l, s := some(r, 4)
		if s += "\x0b"; !Right(l) {
			t.Fatalf("P8.1: %v is right", l)
		}
		more := r.Intn(3)
		behind := span.Span{Min: more - r.Intn(more+1), Max: more + r.Intn(2)}
		limit := len(s) + more
		b := s + "\xff\xff"[:more]
		if got, n, e, whole := told(b, limit, behind, true); !Same(got, l) || n != limit || e != api.OK || !whole {
			t.Fatalf("P8.2: %x: %v %d %d, not %v", b, got, n, e, l)
		}
		for k := range s {
			if _, n, e, _ := told(s[:k], limit, behind, true); n != k || e != api.ErrTruncated {
				t.Fatalf("P8.2: the front %x of %x, and %d: %d %d", s[:k], s, more, n, e)
			}
		}
		put := string(Put([]byte("!"), l))[1:]
		if got, n, e, _ := told(put, len(put), span.Span{}, true); !Same(got, l) || e != api.OK || n > len(s) {
			t.Fatalf("P8.3: %x of %v: %v %d %d", put, l, got, n, e)
		}
		_, n, e, _ := told(b, limit, behind, false)
		if Data(l) != (e != api.OK) || e != api.OK && (e != api.ErrMalformed || s[n-1] != 0xfc || s[n]&7 > 1) {
			t.Fatalf("P8.2: %x without data: %d %d, but Data %v", b, n, e, Data(l))
		}
	}
}

// TestEachFrontGoesOn: as long as bytes lack alone, there is one with which something can come, up to the end.
func TestEachFrontGoesOn(t *testing.T) {
	r := rand.New(rand.NewSource(2))
	likely := []byte{2, 3, 4, 4, 5, 5, 0x0b, 0x0b, 0x40, 0xfc, 8, 0x0e}
	for range 300 {
		behind := span.Span{Min: r.Intn(3)}
		if behind.Max = behind.Min + r.Intn(3); r.Intn(5) == 0 {
			behind.Max = span.Endless
		}
		limit := 1 + r.Intn(20)
		data := r.Intn(2) == 0
		for b := ""; ; {
			l, _, e, whole := told(b, limit, behind, data)
			if whole {
				if !Right(l) || Data(l) && !data {
					t.Fatalf("P8.3: %x: %v is not right", b, l)
				}
				break
			}
			if e != api.ErrTruncated {
				t.Fatalf("P8.2: %x within %d: %d", b, limit, e)
			}
			var next []byte
			for x := range 256 {
				if _, n, e, _ := told(b+string([]byte{byte(x)}), limit, behind, data); e != api.ErrMalformed {
					next = append(next, byte(x))
				} else if n != len(b) {
					t.Fatalf("P8.2: %x: wrong at %d, but %x is a front", b, n, b)
				}
			}
			if len(next) == 0 {
				if b != "" || limit > behind.Min {
					t.Fatalf("P8.2: within %d, behind %v: nothing comes behind %x", limit, behind, b)
				}
				break
			}
			x := likely[r.Intn(len(likely))]
			if !slices.Contains(next, x) {
				x = next[r.Intn(len(next))]
			}
			b += string([]byte{x})
		}
	}
}

func TestWrongAt(t *testing.T) {
	end := span.Span{}
	for _, x := range []struct {
		b      string
		limit  int
		behind span.Span
		data   bool
		place  int
		err    api.Errno
	}{
		{"\x04\x40\x05\x0b\x0b", 5, end, true, 5, api.OK},
		{"\x05", 5, end, true, 0, api.ErrMalformed},
		{"\x0b", 1, end, true, 1, api.OK},
		{"\x0b", 2, end, true, 0, api.ErrMalformed},
		{"\x01", 1, end, true, 0, api.ErrMalformed},
		{"\x01", 2, span.Span{Min: 1, Max: 1}, true, 0, api.ErrMalformed},
		{"\x02\x40", 3, end, true, 0, api.ErrMalformed},
		{"\x02\x40\x0b\x0b", 4, end, true, 4, api.OK},
		{"\x02\x40\x01", 4, end, true, 2, api.ErrMalformed},
		{"\x02\x40\x02", 7, end, true, 3, api.ErrTruncated},
		{"\x02\x40\x02", 6, end, true, 2, api.ErrMalformed},
		{"\x02\x40\x05", 9, end, true, 2, api.ErrMalformed},
		{"\x04\x40\x05\x05", 9, end, true, 3, api.ErrMalformed},
		{"\x04\x40\x02\x40\x05", 9, end, true, 4, api.ErrMalformed},
		{"\x04\x40\x02\x40\x0b\x05\x01\x0b\x0b", 9, end, true, 9, api.OK},
		{"\x04\x40\x05\x02\x40\x0b\x05", 12, end, true, 6, api.ErrMalformed},
		{"\x04\x40\x05", 4, end, true, 2, api.ErrMalformed},
		{"\x04\x40\x0b\x05", 9, end, true, 3, api.ErrMalformed},
		{"\xfc\x08\x00\x00\x0b", 5, end, true, 5, api.OK},
		{"\xfc\x08\x00\x00\x0b", 5, end, false, 1, api.ErrMalformed},
		{"\xfc\x88\x00\x00\x00\x0b", 6, end, false, 1, api.ErrMalformed},
		{"\xfc\x89\x80", 9, end, false, 1, api.ErrMalformed},
		{"\xfc\x89\x80", 9, end, true, 3, api.ErrTruncated},
		{"\xfc\x0a\x00\x00\x0b", 5, end, false, 5, api.OK},
		{"\x0b\x0b", 2, span.Span{Min: 1, Max: 1}, true, 2, api.OK},
	} {
		l, n, e, _ := told(x.b, x.limit, x.behind, x.data)
		if n != x.place || e != x.err {
			t.Errorf("P8.2: %x within %d: %v %d %d, not %d %d", x.b, x.limit, l, n, e, x.place, x.err)
		}
	}
}

func TestElseLeftOut(t *testing.T) {
	l, n, e, _ := told("\x04\x40\x05\x0b\x0b", 5, span.Span{}, false)
	if !Same(l, []instr.Instr{of(4), of(0x0b)}) || n != 5 || e != api.OK {
		t.Errorf("P8.2: an else without anything: %v %d %d", l, n, e)
	}
	b := "\x04\x40\x04\x40\x05\x0b\x05\x04\x40\x05\x0b\x0b\x0b"
	l, _, _, _ = told(b, len(b), span.Span{}, false)
	if !Same(l, []instr.Instr{of(4), of(4), of(0x0b), of(5), of(4), of(0x0b), of(0x0b)}) {
		t.Errorf("P8.2: elses without anything: %v", l)
	}
}

// nested: is it right, as the document's words go? (All instructions are right ones.)
func nested(l []instr.Instr) bool {
	var open []uint32
	for k, x := range l {
		code := x.Op.Code
		switch {
		case x.Op.Prefix != 0:
		case code >= 2 && code <= 4:
			open = append(open, code)
		case code == 5:
			if len(open) == 0 || open[len(open)-1] != 4 {
				return false
			}
			open[len(open)-1] = 5
		case code == 0x0b:
			if len(open) == 0 || l[k-1].Op == (op.Op{Code: 5}) {
				return false
			}
			open = open[:len(open)-1]
		}
	}
	return len(open) == 0
}

func TestRight(t *testing.T) {
	codes := []uint32{1, 2, 3, 4, 4, 5, 5, 0x0b, 0x0b, 0x0b}
	r := rand.New(rand.NewSource(3))
	rights := 0
	for range 200000 {
		l := make([]instr.Instr, r.Intn(9))
		for k := range l {
			l[k] = of(codes[r.Intn(len(codes))])
		}
		if Right(l) != nested(l) {
			t.Fatalf("P8.1: Right of %v is %v", l, Right(l))
		}
		if nested(l) {
			rights++
		}
	}
	if rights < 100 {
		t.Errorf("%d right ones", rights)
	}
	for _, x := range []instr.Instr{of(6), {Op: op.Op{Code: 1}, X: 1}, {Op: op.Op{Prefix: 0xfd, Code: 0x15}, Lane: 16}, {Op: op.Op{Prefix: 1, Code: 0x0b}}} {
		if Right([]instr.Instr{of(1), x}) {
			t.Errorf("P8.1: %v is not right", x)
		}
	}
}

func TestSameDataPut(t *testing.T) {
	a, b := []instr.Instr{of(1), of(0)}, []instr.Instr{of(1), of(0)}
	if !Same(a, b) || Same(a, b[:1]) || Same(a, []instr.Instr{of(0), of(1)}) || !Same(nil, []instr.Instr{}) {
		t.Error("P8.1: Same")
	}
	for o, want := range map[op.Op]bool{{Prefix: 0xfc, Code: 8}: true, {Prefix: 0xfc, Code: 9}: true, {Prefix: 0xfc, Code: 10}: false, {Code: 8}: false, {Code: 9}: false, {Prefix: 0xfd, Code: 8}: false} {
		if Data([]instr.Instr{of(1), {Op: o}}) != want {
			t.Errorf("P8.1: Data of %v", o)
		}
	}
	if Data(nil) {
		t.Error("P8.1: Data of nothing")
	}
	if got := Put([]byte("!"), []instr.Instr{of(4), of(0x0b)}); string(got) != "!\x04\x40\x0b\x0b" {
		t.Errorf("P8.1: Put: %x", got)
	}
	if got := Put(nil, nil); string(got) != "\x0b" {
		t.Errorf("P8.1: Put of nothing: %x", got)
	}
}

// TestDeep: how deep things are has no bound but the bytes'.
func TestDeep(t *testing.T) {
	const deep = 1 << 16
	for _, opened := range []string{"\x02\x40", "\x03\x40", "\x04\x7f", "\x04\x40\x05"} {
		b := strings.Repeat(opened, deep) + strings.Repeat("\x0b", deep+1)
		l, n, e, _ := told(b, len(b), span.Span{}, false)
		if n != len(b) || e != api.OK || !Right(l) || len(l) < 2*deep {
			t.Errorf("P8.2: %x, so deep: %d %d, %d instructions", opened, n, e, len(l))
		}
		if _, n, e, _ := told(b, len(b)-1, span.Span{}, false); n >= deep*len(opened) || e != api.ErrMalformed {
			t.Errorf("P8.2: %x, so deep, an end too few: %d %d", opened, n, e)
		}
		if _, n, e, _ := told(b+"\x0b", len(b)+1, span.Span{}, false); n != len(b)-1 || e != api.ErrMalformed {
			t.Errorf("P8.2: %x, so deep, an end too many: %d %d", opened, n, e)
		}
	}
}

// TestWithoutLimit reads ahead of what has no bound.
func TestWithoutLimit(t *testing.T) {
	n, e := cursor.Try([]byte("\x04\x40\x01\x0b\x0b\x0b"), func(c *cursor.Cursor) {
		if l := Read(c, span.Span{Max: span.Endless}, false); !Same(l, []instr.Instr{of(4), of(1), of(0x0b)}) {
			t.Errorf("P8.2: %v", l)
		}
	})
	if n != 5 || e != api.OK {
		t.Errorf("P8.2: %d %d", n, e)
	}
}
