package instr

import (
	"math"
	"math/rand"
	"testing"

	"dobby/api"
	"dobby/cursor"
	"dobby/op"
	"dobby/span"
	"dobby/wtype"
)

var (
	vals = []wtype.Val{wtype.I32, wtype.I64, wtype.F32, wtype.F64, wtype.V128, wtype.FuncRef, wtype.ExternRef}
	end  = span.Span{Max: span.Endless}
)

// all is every op that there is.
func all() []op.Op {
	var l []op.Op
	for _, prefix := range []byte{0, 0xfc, 0xfd} {
		for code := range op.Codes(prefix) {
			l = append(l, op.Op{Prefix: prefix, Code: code})
		}
	}
	return l
}

// long puts v by sevens with or without a sign, in up to more bytes than it needs.
func long(r *rand.Rand, v int64, signed bool, most int) string {
	fill := byte(0)
	if v < 0 {
		fill = 0x7f
	}
	least := int64(1)
	n := 1
	for ; n < most; n++ {
		if least = least << 7; signed && v >= -least/2 && v < least/2 || !signed && v < least {
			break
		}
	}
	b := make([]byte, min(n+r.Intn(3)*r.Intn(2), most))
	for i := range b {
		b[i] = byte(v)&0x7f | 0x80
		if 7*i > 63 {
			b[i] = fill | 0x80
		}
		v >>= 7
	}
	b[len(b)-1] &= 0x7f
	return string(b)
}

func someNumber(r *rand.Rand) uint32 {
	return []uint32{0, 1, 63, 64, 127, 128, 300, 1 << 14, 1<<21 - 1, 1 << 28, math.MaxUint32, r.Uint32()}[r.Intn(12)]
}

// some is a right instruction of an op, and its bytes, in more than they need.
func some(r *rand.Rand, o op.Op) (Instr, string) {
	i, info := Instr{Op: o}, op.Info{}
	s := string([]byte{byte(o.Code)})
	if o.Prefix != 0 {
		s = string([]byte{o.Prefix}) + long(r, int64(o.Code), false, 5)
	}
	number := func(v *uint32) {
		*v = someNumber(r)
		s += long(r, int64(*v), false, 5)
	}
	lane := func(many int) byte {
		x := byte(r.Intn(many))
		s += string([]byte{x})
		return x
	}
	info, _ = op.Find(o)
	switch info.Shape {
	case 1:
		switch i.Block.Kind = r.Intn(3); i.Block.Kind {
		case 0:
			s += "\x40"
		case 1:
			i.Block.Type = vals[r.Intn(7)]
			s += string([]byte{byte(i.Block.Type)})
		default:
			i.Block.Index = someNumber(r)
			s += long(r, int64(i.Block.Index), true, 5)
		}
	case 2:
		number(&i.X)
	case 3, 5:
		number(&i.X)
		number(&i.Y)
	case 4:
		i.List = make([]uint32, r.Intn(4))
		s += long(r, int64(len(i.List)), false, 5)
		for k := range i.List {
			number(&i.List[k])
		}
		number(&i.X)
	case 6:
		s += "\x00"
	case 7:
		s += "\x00\x00"
	case 8:
		number(&i.X)
		s += "\x00"
	case 9:
		i.N = int64(int32(someNumber(r)))
		s += long(r, i.N, true, 5)
	case 10:
		i.N = int64(r.Uint64()) >> r.Intn(64)
		s += long(r, i.N, true, 10)
	case 11, 12, 13, 14:
		for range []int{4, 8, 16, 16}[info.Shape-11] {
			i.Raw += string([]byte{lane([]int{256, 256, 256, 32}[info.Shape-11])})
		}
	case 15:
		i.Lane = lane(info.Lanes)
	case 16:
		number(&i.X)
		number(&i.Y)
		i.Lane = lane(info.Lanes)
	case 17:
		i.Types = []wtype.Val{vals[5+r.Intn(2)]}
		s += string([]byte{byte(i.Types[0])})
	case 18:
		i.Types = make([]wtype.Val, r.Intn(4))
		s += long(r, int64(len(i.Types)), false, 5)
		for k := range i.Types {
			i.Types[k] = vals[r.Intn(7)]
			s += string([]byte{byte(i.Types[k])})
		}
	}
	return i, s
}

// told is what reading b tells, within so many bytes; whole: the instruction was read.
func told(b string, limit int, behind func(o op.Op) (span.Span, bool)) (i Instr, n int, e api.Errno, whole bool) {
	n, e = cursor.Try([]byte(b), func(c *cursor.Cursor) {
		c.Within(limit, func() {
			i = Read(c, behind)
			after, ok := behind(i.Op)
			whole = ok && after.Has(c.Rest())
			c.Raw(c.Rest())
		})
	})
	return i, n, e, whole
}

// TestReadInMoreBytes: each instruction is read, and each front of it, with just as many bytes behind as there may be.
func TestReadInMoreBytes(t *testing.T) {
	r := rand.New(rand.NewSource(1))
	for range 30 {
		for _, o := range all() {
			i, s := some(r, o)
			if !i.Right() {
				t.Fatalf("P7.1: %v is right", i)
			}
			more := r.Intn(3)
			behind := func(p op.Op) (span.Span, bool) {
				if p == o {
					return span.Span{Min: more, Max: more}, true
				}
				return span.Span{Min: 9999, Max: 9999}, p.Code%2 == 0
			}
			limit := len(s) + more
			b := s + "\xff\xff"[:more]
			if got, n, e, whole := told(b, limit, behind); !got.Same(i) || n != limit || e != api.OK || !whole {
				t.Fatalf("P7.2: %x: %v %d %d, not %v", b, got, n, e, i)
			}
			for k := range s {
				if _, n, e, _ := told(s[:k], limit, behind); n != k || e != api.ErrTruncated {
					t.Fatalf("P7.2: the front %x of %x, and %d: %d %d", s[:k], s, more, n, e)
				}
			}
			put := string(i.Put([]byte("!")))[1:]
			if got, n, e, _ := told(put, len(put), func(p op.Op) (span.Span, bool) { return span.Span{}, p == o }); !got.Same(i) || e != api.OK || n > len(s) {
				t.Fatalf("P7.3: %x of %v: %v %d %d", put, i, got, n, e)
			}
		}
	}
}

// TestEachFrontGoesOn: as long as bytes lack alone, there is one with which something can come, up to the end.
func TestEachFrontGoesOn(t *testing.T) {
	r := rand.New(rand.NewSource(2))
	ops := all()
	for range 600 {
		allowed := map[op.Op]span.Span{}
		most := 0
		for range 1 + r.Intn(4) {
			s := span.Span{Min: r.Intn(4)}
			if s.Max = s.Min + r.Intn(3); r.Intn(4) == 0 {
				s.Max = span.Endless
			}
			allowed[ops[r.Intn(len(ops))]] = s
			most = max(most, min(s.Max, 24))
		}
		behind := func(o op.Op) (span.Span, bool) { s, ok := allowed[o]; return s, ok }
		limit := 1 + r.Intn(24)
		possible := false
		for o, s := range allowed {
			own, _ := op.Find(o)
			first := span.Span{Min: len(o.Put(nil)), Max: 1}
			if o.Prefix != 0 {
				first.Max = 6
			}
			possible = possible || first.And(own.Span()).And(s).Has(limit)
		}
		for b := ""; ; {
			_, _, e, whole := told(b, limit, behind)
			if whole {
				break
			}
			if e != api.ErrTruncated {
				t.Fatalf("P7.2: %x within %d, of %v: %d", b, limit, allowed, e)
			}
			var next []byte
			for x := range 256 {
				if _, n, e, _ := told(b+string([]byte{byte(x)}), limit, behind); e != api.ErrMalformed {
					next = append(next, byte(x))
				} else if n != len(b) {
					t.Fatalf("P7.2: %x: wrong at %d, but %x is a front", b, n, b)
				}
			}
			if len(next) == 0 {
				if b != "" || possible {
					t.Fatalf("P7.2: within %d, of %v: nothing comes behind %x", limit, allowed, b)
				}
				break
			} else if b == "" && !possible {
				t.Fatalf("P7.2: within %d, of %v: %x comes", limit, allowed, next)
			}
			b += string([]byte{next[r.Intn(len(next))]})
		}
	}
}

func TestWrongAt(t *testing.T) {
	for _, x := range []struct {
		b     string
		limit int
		place int
		err   api.Errno
	}{
		{"\x41\x7f", 2, 2, api.OK},
		{"\x41\x7f", 3, 1, api.ErrMalformed},
		{"\x41\xff\x7f", 3, 3, api.OK},
		{"\x41\xff\xff\xff\xff\x0f", 6, 5, api.ErrMalformed},
		{"\x0e\x02\x01\x02\x03", 5, 5, api.OK},
		{"\x0e\x03", 5, 1, api.ErrMalformed},
		{"\x0e\x02", 5, 2, api.ErrTruncated},
		{"\x06", 5, 0, api.ErrMalformed},
		{"\xff", 5, 0, api.ErrMalformed},
		{"\xfb", 5, 0, api.ErrMalformed},
		{"\x00\x00", 2, 0, api.ErrMalformed},
		{"\xfc\x12", 2, 1, api.ErrMalformed},
		{"\xfc\x07", 2, 2, api.OK},
		{"\xfc\x07", 3, 1, api.ErrMalformed},
		{"\xfc\x87\x00", 3, 3, api.OK},
		{"\xfc\x92\x00", 3, 1, api.ErrMalformed},
		{"\xfc\x80\x80\x80\x80\x00", 6, 6, api.OK},
		{"\xfc\x80\x80\x80\x80\x10", 6, 5, api.ErrMalformed},
		{"\xfc\x80\x80\x80\x80\x80", 7, 1, api.ErrMalformed},
		{"\xfc\x89\x80\x80\x80\x80", 7, 5, api.ErrMalformed},
		{"\xfd\x9a\x01", 3, 1, api.ErrMalformed},
		{"\xfd\x9a\x01", 4, 2, api.ErrMalformed},
		{"\xfd\x9a\x00\x07", 4, 4, api.OK},
		{"\xfd\x9b\x01", 3, 3, api.OK},
		{"\xfd\x15\x10", 3, 2, api.ErrMalformed},
		{"\xfd\x15\x0f", 3, 3, api.OK},
		{"\xfd\x1d\x02", 3, 2, api.ErrMalformed},
		{"\xfd\x54\x00\x00\x10", 5, 4, api.ErrMalformed},
		{"\xfd\x57\x00\x00\x01", 5, 5, api.OK},
		{"\xfd\x57\x00\x00\x02", 5, 4, api.ErrMalformed},
		{"\xfd\x0d\x20", 18, 2, api.ErrMalformed},
		{"\xfd\x0d\x1f\x00", 18, 4, api.ErrTruncated},
		{"\xd0\x7f", 2, 1, api.ErrMalformed},
		{"\xd0\x6f", 2, 2, api.OK},
		{"\x1c\x01\x40", 3, 2, api.ErrMalformed},
		{"\x3f\x01", 2, 1, api.ErrMalformed},
		{"\xfc\x0a\x00\x01", 4, 3, api.ErrMalformed},
		{"\xfc\x0a\x01\x00", 4, 2, api.ErrMalformed},
		{"\xfc\x08\x05\x01", 4, 3, api.ErrMalformed},
		{"\xfc\x08\x05\x00", 4, 4, api.OK},
		{"\x02\x40", 2, 2, api.OK},
		{"\x02\x40", 3, 1, api.ErrMalformed},
		{"\x02\xc0\x7f", 3, 2, api.ErrMalformed},
		{"\x02\x41", 2, 1, api.ErrMalformed},
		{"\x02\x7a", 2, 1, api.ErrMalformed},
		{"\x02\x6f", 2, 2, api.OK},
		{"\x02\x3f", 2, 2, api.OK},
		{"\x02\xff\x3f", 3, 3, api.OK},
		{"\x02\xff\x40", 3, 2, api.ErrMalformed},
		{"\x02\xff\xff\xff\xff\x0f", 6, 6, api.OK},
		{"\x02\xff\xff\xff\xff\x10", 6, 5, api.ErrMalformed},
		{"\x02\xff\xff\xff\xff\x8f", 9, 0, api.ErrMalformed},
		{"\x02\x80\x80\x00", 3, 2, api.ErrMalformed},
		{"\x43\x00\x00\x00", 5, 4, api.ErrTruncated},
		{"\x43", 4, 0, api.ErrMalformed},
	} {
		i, n, e, _ := told(x.b, x.limit, func(o op.Op) (span.Span, bool) { return span.Span{}, true })
		if n != x.place || e != x.err {
			t.Errorf("P7.2: %x within %d: %v %d %d, not %d %d", x.b, x.limit, i, n, e, x.place, x.err)
		}
	}
}

// TestBlockDigits: a block's number has five digits at most, whatever may stand behind it.
func TestBlockDigits(t *testing.T) {
	behind := func(op.Op) (span.Span, bool) { return span.Span{Min: 0, Max: 9}, true }
	for _, x := range []struct {
		b     string
		place int
		err   api.Errno
		index uint32
	}{
		{"\x02\xff\xff\xff\xff\x8f", 5, api.ErrMalformed, 0},
		{"\x02\xff\xff\xff\xff\x10", 5, api.ErrMalformed, 0},
		{"\x02\xff\xff\xff\xff\x0f", 9, api.OK, 1<<32 - 1},
		{"\x02\xff\xff\xff\x40", 4, api.ErrMalformed, 0},
		{"\x02\xff\xff\xff\x3f", 9, api.OK, 1<<27 - 1},
		{"\x02\xff\xff\x3f", 9, api.OK, 1<<20 - 1},
		{"\x02\xff\x3f", 9, api.OK, 1<<13 - 1},
		{"\x02\x3f", 9, api.OK, 63},
	} {
		b := x.b
		if x.err == api.OK {
			b += "\xff\xff\xff\xff\xff\xff\xff\xff"[:9-len(b)]
		}
		i, n, e, _ := told(b, 9, behind)
		if n != x.place || e != x.err || e == api.OK && i.Block != (BlockType{Kind: 2, Index: x.index}) {
			t.Errorf("P7.2: %x: %v %d %d", b, i.Block, n, e)
		}
	}
}

// TestWithoutLimit reads ahead of what has no bound.
func TestWithoutLimit(t *testing.T) {
	r := rand.New(rand.NewSource(3))
	for _, o := range all() {
		i, s := some(r, o)
		n, e := cursor.Try([]byte(s), func(c *cursor.Cursor) {
			if got := Read(c, func(op.Op) (span.Span, bool) { return end, true }); !got.Same(i) {
				t.Errorf("P7.2: %x: %v, not %v", s, got, i)
			}
		})
		if n != len(s) || e != api.OK {
			t.Errorf("P7.2: %x: %d %d", s, n, e)
		}
	}
	if n, e := cursor.Try([]byte("\x0e\xff\xff\xff\xff\x0f\x01"), func(c *cursor.Cursor) {
		Read(c, func(op.Op) (span.Span, bool) { return end, true })
	}); n != 7 || e != api.ErrTruncated {
		t.Errorf("P7.2: very many: %d %d", n, e)
	}
}

// parts are ways to have what is not zero.
func parts() []func(i *Instr) {
	return []func(i *Instr){
		func(i *Instr) { i.Block.Kind = 1 },
		func(i *Instr) { i.Block.Kind = -1 },
		func(i *Instr) { i.Block.Kind = 3 },
		func(i *Instr) { i.Block.Type = 0x40 },
		func(i *Instr) { i.Block.Type = wtype.I32 },
		func(i *Instr) { i.Block.Index = 7 },
		func(i *Instr) { i.X = 5 },
		func(i *Instr) { i.Y = 5 },
		func(i *Instr) { i.List = []uint32{0} },
		func(i *Instr) { i.N = 1 },
		func(i *Instr) { i.N = math.MaxInt32 + 1 },
		func(i *Instr) { i.N = math.MinInt32 - 1 },
		func(i *Instr) { i.Raw = "\x00" },
		func(i *Instr) { i.Raw = "\x00\x00\x00\x00" },
		func(i *Instr) { i.Raw = "12345678" },
		func(i *Instr) { i.Raw = "0123456789abcdef" },
		func(i *Instr) { i.Raw = "\x00\x01\x02\x03\x04\x05\x06\x07\x08\x09\x1f\x1e\x1d\x1c\x1b\x1a" },
		func(i *Instr) { i.Raw = "\x00\x01\x02\x03\x04\x05\x06\x07\x08\x09\x1f\x1e\x1d\x1c\x1b\x80" },
		func(i *Instr) { i.Raw = "\x00\x01\x02\x03\x04\x05\x06\x07\x08\x09\x1f\x1e\x1d\x1c\x1b\x20" },
		func(i *Instr) { i.Lane = 1 },
		func(i *Instr) { i.Lane = 2 },
		func(i *Instr) { i.Lane = 15 },
		func(i *Instr) { i.Lane = 16 },
		func(i *Instr) { i.Types = []wtype.Val{wtype.FuncRef} },
		func(i *Instr) { i.Types = []wtype.Val{wtype.I32} },
		func(i *Instr) { i.Types = []wtype.Val{wtype.ExternRef, wtype.FuncRef} },
		func(i *Instr) { i.Types = []wtype.Val{0x40} },
		func(i *Instr) { i.Op.Code += 0x1000 },
		func(i *Instr) { i.Op.Prefix = 0xfe },
	}
}

// TestRight: an instruction is right just if it is read as it was from what it puts.
func TestRight(t *testing.T) {
	r := rand.New(rand.NewSource(4))
	for _, o := range all() {
		for _, first := range parts() {
			for _, second := range append(parts(), func(*Instr) {}) {
				i, _ := some(r, o)
				if r.Intn(2) == 0 {
					i = Instr{Op: o}
				}
				first(&i)
				if second(&i); r.Intn(3) > 0 {
					continue
				}
				b := string(i.Put(nil))
				got, n, e, _ := told(b, len(b), func(op.Op) (span.Span, bool) { return span.Span{}, true })
				if back := e == api.OK && n == len(b) && got.Same(i); i.Right() != back {
					t.Fatalf("P7.1: Right of %v is %v, but %x: %v %d %d", i, i.Right(), b, got, n, e)
				}
			}
		}
	}
}

func TestSame(t *testing.T) {
	i := Instr{Op: op.Op{Prefix: 1, Code: 2}, Block: BlockType{Kind: 3, Type: 4, Index: 5}, X: 6, Y: 7, List: []uint32{8}, N: 9, Raw: "a", Lane: 10, Types: []wtype.Val{11}}
	o := i
	o.List, o.Types = []uint32{8}, []wtype.Val{11}
	if !i.Same(o) || !(Instr{List: []uint32{}, Types: []wtype.Val{}}).Same(Instr{}) {
		t.Error("P7.1: Same of the same")
	}
	for k, change := range []func(i *Instr){
		func(i *Instr) { i.Op.Prefix++ }, func(i *Instr) { i.Op.Code++ }, func(i *Instr) { i.Block.Kind++ }, func(i *Instr) { i.Block.Type++ }, func(i *Instr) { i.Block.Index++ },
		func(i *Instr) { i.X++ }, func(i *Instr) { i.Y++ }, func(i *Instr) { i.List = []uint32{9} }, func(i *Instr) { i.List = nil }, func(i *Instr) { i.N++ },
		func(i *Instr) { i.Raw = "b" }, func(i *Instr) { i.Lane++ }, func(i *Instr) { i.Types = []wtype.Val{11, 11} }, func(i *Instr) { i.Types = []wtype.Val{12} },
	} {
		o := i
		if change(&o); i.Same(o) || o.Same(i) {
			t.Errorf("P7.1: Same of others (%d)", k)
		}
	}
}

func TestPut(t *testing.T) {
	for want, i := range map[string]Instr{
		"\x41\x7f":                 {Op: op.Op{Code: 0x41}, N: -1},
		"\x0e\x02\x01\x02\x03":     {Op: op.Op{Code: 0x0e}, List: []uint32{1, 2}, X: 3},
		"\x02\x40":                 {Op: op.Op{Code: 2}},
		"\x03\x7f":                 {Op: op.Op{Code: 3}, Block: BlockType{Kind: 1, Type: wtype.I32}},
		"\x04\xc0\x00":             {Op: op.Op{Code: 4}, Block: BlockType{Kind: 2, Index: 64}},
		"\x04\xff\xff\xff\xff\x0f": {Op: op.Op{Code: 4}, Block: BlockType{Kind: 2, Index: math.MaxUint32}},
		"\x11\x01\x80\x01":         {Op: op.Op{Code: 0x11}, X: 1, Y: 128},
		"\xfc\x08\x09\x00":         {Op: op.Op{Prefix: 0xfc, Code: 8}, X: 9},
		"\xfc\x0a\x00\x00":         {Op: op.Op{Prefix: 0xfc, Code: 10}},
		"\x3f\x00":                 {Op: op.Op{Code: 0x3f}},
		"\xfd\x56\x01\x02\x03":     {Op: op.Op{Prefix: 0xfd, Code: 0x56}, X: 1, Y: 2, Lane: 3},
		"\xfd\xff\x01":             {Op: op.Op{Prefix: 0xfd, Code: 0xff}},
		"\xd0\x70":                 {Op: op.Op{Code: 0xd0}, Types: []wtype.Val{wtype.FuncRef}},
		"\x1c\x01\x7b":             {Op: op.Op{Code: 0x1c}, Types: []wtype.Val{wtype.V128}},
		"\x44abcdefgh":             {Op: op.Op{Code: 0x44}, Raw: "abcdefgh"},
	} {
		if got := i.Put([]byte("!")); string(got) != "!"+want {
			t.Errorf("P7.1: Put of %v: %x", i, got)
		}
	}
}
