package entry

import (
	"math"
	"math/rand"
	"strings"
	"testing"

	"dobby/api"
	"dobby/cursor"
	"dobby/expr"
	"dobby/instr"
	"dobby/op"
	"dobby/span"
	"dobby/wtype"
)

var vals = []wtype.Val{wtype.I32, wtype.I64, wtype.F32, wtype.F64, wtype.V128, wtype.FuncRef, wtype.ExternRef}

// thing is what is read and put here.
type thing interface {
	Put(b []byte) []byte
	Right() bool
}

// long is v, in up to two bytes more than it needs.
func long(r *rand.Rand, v uint32) string {
	n := 1
	for n < 5 && v>>(7*n) != 0 {
		n++
	}
	n = min(5, n+r.Intn(3)*r.Intn(2))
	b := make([]byte, n)
	for i := range b {
		b[i] = byte(v>>(7*i)) | 0x80
	}
	b[n-1] &= 0x7f
	return string(b)
}

func someNumber(r *rand.Rand) uint32 {
	return []uint32{0, 0, 1, 2, 127, 128, 300, 1 << 28, math.MaxUint32, r.Uint32()}[r.Intn(10)]
}

func someText(r *rand.Rand) (string, string) {
	s := []string{"", "a", "€", "name", "é\x00𝄞"}[r.Intn(5)]
	return s, long(r, uint32(len(s))) + s
}

// data: have expressions to do with data? Half of them have.
func someExpr(r *rand.Rand, data bool) ([]instr.Instr, string) {
	n := someNumber(r)
	of := func(code uint32, x uint32) instr.Instr { return instr.Instr{Op: op.Op{Code: code}, X: x} }
	switch k := r.Intn(7); {
	case k == 0:
		return nil, "\x0b"
	case k == 1:
		return []instr.Instr{of(0xd2, n)}, "\xd2" + long(r, n) + "\x0b"
	case k == 2:
		return []instr.Instr{of(0x23, n), of(0xd2, 1)}, "\x23" + long(r, n) + "\xd2\x01\x0b"
	case k == 3:
		return []instr.Instr{of(4, 0), of(0x0b, 0)}, "\x04\x40\x05\x0b\x0b"
	case k < 6 && data:
		return []instr.Instr{{Op: op.Op{Prefix: 0xfc, Code: 9}, X: n}}, "\xfc\x89\x00" + long(r, n) + "\x0b"
	}
	return []instr.Instr{{Op: op.Op{Code: 0xd0}, Types: []wtype.Val{wtype.FuncRef}}}, "\xd0\x70\x0b"
}

func someLimits(r *rand.Rand) (wtype.Limits, string) {
	l := wtype.Limits{Min: someNumber(r)}
	if r.Intn(2) == 0 {
		return l, "\x00" + long(r, l.Min)
	}
	l.HasMax, l.Max = true, someNumber(r)
	return l, "\x01" + long(r, l.Min) + long(r, l.Max)
}

func someImport(r *rand.Rand) (Import, string) {
	x := Import{Kind: r.Intn(4)}
	var a, b, s string
	x.Module, a = someText(r)
	x.Name, b = someText(r)
	switch x.Kind {
	case 0:
		x.Func = someNumber(r)
		s = long(r, x.Func)
	case 1:
		x.Table.Elem = vals[5+r.Intn(2)]
		x.Table.Limits, s = someLimits(r)
		s = string([]byte{byte(x.Table.Elem)}) + s
	case 2:
		x.Memory, s = someLimits(r)
	case 3:
		x.Global = wtype.Global{Type: vals[r.Intn(7)], Mut: r.Intn(2) == 0}
		s = string(x.Global.Put(nil))
	}
	return x, a + b + string([]byte{byte(x.Kind)}) + s
}

func someElem(r *rand.Rand) (Elem, string) {
	form := r.Intn(8)
	x := Elem{Mode: []int{0, 1, 0, 2, 0, 1, 0, 2}[form], Type: wtype.FuncRef}
	s := long(r, uint32(form))
	var o string
	if form == 2 || form == 6 {
		x.Table = someNumber(r)
		s += long(r, x.Table)
	}
	if form%2 == 0 {
		x.Offset, o = someExpr(r, true)
		s += o
	}
	switch form {
	case 1, 2, 3:
		s += "\x00"
	case 5, 6, 7:
		x.Type = vals[5+r.Intn(2)]
		s += string([]byte{byte(x.Type)})
	}
	n := r.Intn(4)
	s += long(r, uint32(n))
	for range n {
		l := []instr.Instr{{Op: op.Op{Code: 0xd2}, X: someNumber(r)}}
		o = long(r, l[0].X)
		if form >= 4 {
			l, o = someExpr(r, true)
		}
		x.Init, s = append(x.Init, l), s+o
	}
	return x, s
}

func someData(r *rand.Rand, data bool) (Data, string) {
	form := uint32(r.Intn(3))
	x := Data{Active: form != 1, Bytes: []string{"", "x", "\xff\x00\x80"}[r.Intn(3)]}
	s := long(r, form)
	if form == 2 {
		x.Memory = someNumber(r)
		s += long(r, x.Memory)
	}
	if x.Active {
		var o string
		x.Offset, o = someExpr(r, data)
		s += o
	}
	return x, s + long(r, uint32(len(x.Bytes))) + x.Bytes
}

func someCode(r *rand.Rand, data bool) (Code, string) {
	x, s := Code{}, ""
	n, left := r.Intn(6), uint32(math.MaxUint32)
	for range n {
		run := Run{min(someNumber(r), left), vals[r.Intn(2)]}
		left -= run.Count
		s += long(r, run.Count) + string([]byte{byte(run.Type)})
		if k := len(x.Locals) - 1; k >= 0 && x.Locals[k].Type == run.Type {
			x.Locals[k].Count += run.Count
		} else if run.Count > 0 {
			x.Locals = append(x.Locals, run)
		}
	}
	body, o := someExpr(r, data)
	x.Body, s = body, long(r, uint32(n))+s+o
	return x, long(r, uint32(len(s))) + s
}

// kind is one kind of things: how it is read, some one of it (also in more bytes than it needs), and whether two are the same.
type kind struct {
	name  string
	least int
	read  func(c *cursor.Cursor, behind span.Span) thing
	some  func(r *rand.Rand) (thing, string)
	same  func(a, b thing) bool
}

func everyKind() []kind {
	equal := func(a, b thing) bool { return a == b }
	return []kind{
		{"Import", 4, func(c *cursor.Cursor, s span.Span) thing { return ReadImport(c, s) }, func(r *rand.Rand) (thing, string) { return someImport(r) }, equal},
		{"Export", 3, func(c *cursor.Cursor, s span.Span) thing { return ReadExport(c, s) }, func(r *rand.Rand) (thing, string) {
			x := Export{Kind: r.Intn(4), Index: someNumber(r)}
			name, s := someText(r)
			x.Name = name
			return x, s + string([]byte{byte(x.Kind)}) + long(r, x.Index)
		}, equal},
		{"Global", 3, func(c *cursor.Cursor, s span.Span) thing { return ReadGlobal(c, s) }, func(r *rand.Rand) (thing, string) {
			x := Global{Type: wtype.Global{Type: vals[r.Intn(7)], Mut: r.Intn(2) == 0}}
			init, s := someExpr(r, true)
			x.Init = init
			return x, string(x.Type.Put(nil)) + s
		}, func(a, b thing) bool { return a.(Global).Same(b.(Global)) }},
		{"Elem", 3, func(c *cursor.Cursor, s span.Span) thing { return ReadElem(c, s) }, func(r *rand.Rand) (thing, string) { return someElem(r) }, func(a, b thing) bool { return a.(Elem).Same(b.(Elem)) }},
		{"Data", 2, func(c *cursor.Cursor, s span.Span) thing { return ReadData(c, s, true) }, func(r *rand.Rand) (thing, string) { return someData(r, true) }, func(a, b thing) bool { return a.(Data).Same(b.(Data)) }},
		{"Code", 3, func(c *cursor.Cursor, s span.Span) thing { return ReadCode(c, s, true) }, func(r *rand.Rand) (thing, string) { return someCode(r, true) }, func(a, b thing) bool { return a.(Code).Same(b.(Code)) }},
		{"Data without", 2, func(c *cursor.Cursor, s span.Span) thing { return ReadData(c, s, false) }, func(r *rand.Rand) (thing, string) { return someData(r, false) }, func(a, b thing) bool { return a.(Data).Same(b.(Data)) }},
		{"Code without", 3, func(c *cursor.Cursor, s span.Span) thing { return ReadCode(c, s, false) }, func(r *rand.Rand) (thing, string) { return someCode(r, false) }, func(a, b thing) bool { return a.(Code).Same(b.(Code)) }},
	}
}

// told is what reading b tells, within so many bytes; whole: it was all read.
func told(b string, limit int, k kind, behind span.Span) (x thing, n int, e api.Errno, whole bool) {
	n, e = cursor.Try([]byte(b), func(c *cursor.Cursor) {
		c.Within(limit, func() {
			x = k.read(c, behind)
			whole = behind.Has(c.Rest())
			c.Raw(c.Rest())
		})
	})
	return x, n, e, whole
}

// TestReadInMoreBytes: what comes is read, and each front of it, with just as many bytes behind as there may be.
func TestReadInMoreBytes(t *testing.T) {
	r := rand.New(rand.NewSource(1))
	for range 1500 {
		for _, k := range everyKind() {
			x, s := k.some(r)
			more := r.Intn(3)
			behind := span.Span{Min: more - r.Intn(more+1), Max: more + r.Intn(2)}
			if r.Intn(3) == 0 {
				behind.Max = span.Endless
			}
			limit := len(s) + more
			if !x.Right() {
				t.Fatalf("P9.1: %s: %v is right", k.name, x)
			}
			got, n, e, whole := told(s+"\xff\xff"[:more], limit, k, behind)
			if e != api.OK || !k.same(got, x) || n != limit || !whole {
				t.Fatalf("P9.2: %s of %x: %v %d %d, not %v", k.name, s, got, n, e, x)
			}
			for i := range s {
				if _, n, e, _ := told(s[:i], limit, k, behind); n != i || e != api.ErrTruncated {
					t.Fatalf("P9.2: %s of the front %x of %x, and %d: %d %d", k.name, s[:i], s, more, n, e)
				}
			}
			put := string(x.Put([]byte("!")))[1:]
			if got, _, e, _ := told(put, len(put), k, span.Span{}); e != api.OK || !k.same(got, x) || len(put) > len(s) {
				t.Fatalf("P9.3: %s: %x, put for %v, tells %v %d", k.name, put, x, got, e)
			}
		}
	}
}

// TestEachFrontGoesOn: as long as bytes lack alone, there is one with which something can come, up to the end; and then it is right.
func TestEachFrontGoesOn(t *testing.T) {
	r := rand.New(rand.NewSource(2))
	for i := range 1200 {
		k := everyKind()[i%8]
		behind := span.Span{Min: r.Intn(3)}
		if behind.Max = behind.Min + r.Intn(2); r.Intn(4) == 0 {
			behind.Max = span.Endless
		}
		limit := 1 + r.Intn(14)
		possible := limit >= k.least+behind.Min
		for b := ""; ; {
			x, _, e, whole := told(b, limit, k, behind)
			if whole && e != api.ErrMalformed {
				if put := x.Put(nil); !x.Right() || len(put) > limit {
					t.Fatalf("P9.3: %s of %x: %v, right %v, put %x", k.name, b, x, x.Right(), put)
				}
				break
			}
			if e != api.ErrTruncated {
				t.Fatalf("P9.2: %s of %x within %d, behind %v: %d", k.name, b, limit, behind, e)
			}
			var next []byte
			for x := range 256 {
				if _, n, e, _ := told(b+string([]byte{byte(x)}), limit, k, behind); e != api.ErrMalformed {
					next = append(next, byte(x))
				} else if n != len(b) {
					t.Fatalf("P9.2: %s of %x: wrong at %d, but %x is a front", k.name, b, n, b)
				}
			}
			if len(next) == 0 {
				if b != "" || possible {
					t.Fatalf("P9.2: %s within %d, behind %v: nothing comes behind %x", k.name, limit, behind, b)
				}
				break
			}
			if !possible {
				t.Fatalf("P9.2: %s within %d, behind %v: %x comes", k.name, limit, behind, next)
			}
			x1 := next[r.Intn(len(next))]
			if r.Intn(3) > 0 { // small numbers lead further
				x1 = next[r.Intn(min(len(next), 8))]
			}
			b += string([]byte{x1})
		}
	}
}

func TestWrongAt(t *testing.T) {
	end := span.Span{}
	all := map[string]kind{}
	for _, k := range everyKind() {
		all[k.name] = k
	}
	for _, x := range []struct {
		name  string
		b     string
		limit int
		place int
		err   api.Errno
	}{
		{"Elem", "\x01\x00\x01\x07", 4, 4, api.OK},
		{"Elem", "\x08", 9, 0, api.ErrMalformed},
		{"Elem", "\x02\x00\x0b\x00\x00", 5, 5, api.OK},
		{"Elem", "\x02", 4, 0, api.ErrMalformed},
		{"Elem", "\x06\x00\x0b\x70\x00", 5, 5, api.OK},
		{"Elem", "\x06\x00\x0b\x7f", 9, 3, api.ErrMalformed},
		{"Elem", "\x05\x00", 9, 1, api.ErrMalformed},
		{"Elem", "\x01\x70", 9, 1, api.ErrMalformed},
		{"Elem", "\x00\x0b\x02", 4, 2, api.ErrMalformed},
		{"Elem", "\x05\x70\x01\x01", 4, 3, api.ErrMalformed},
		{"Elem", "\x85\x00\x6f\x00", 4, 4, api.OK},
		{"Elem", "\x82\x00", 5, 0, api.ErrMalformed},
		{"Elem", "\x88", 9, 0, api.ErrMalformed},
		{"Data", "\x03", 9, 0, api.ErrMalformed},
		{"Data", "\x01\x00", 2, 2, api.OK},
		{"Data", "\x00", 2, 0, api.ErrMalformed},
		{"Data", "\x02", 3, 0, api.ErrMalformed},
		{"Data", "\x02\x00\x0b\x00", 4, 4, api.OK},
		{"Data", "\x01\x02\x61", 3, 1, api.ErrMalformed},
		{"Data", "\x01\x01\xff", 3, 3, api.OK},
		{"Data", "\x00\xfc\x09\x00\x0b\x00", 6, 6, api.OK},
		{"Data without", "\x00\xfc\x09\x00\x0b\x00", 6, 2, api.ErrMalformed},
		{"Code", "\x02\x00\x0b", 3, 3, api.OK},
		{"Code", "\x01", 3, 0, api.ErrMalformed},
		{"Code", "\x03", 3, 0, api.ErrMalformed},
		{"Code", "\x82\x00\x00\x0b", 4, 4, api.OK},
		{"Code", "\x81", 4, 0, api.ErrMalformed},
		{"Code", "\x04\x01\x05\x7f\x0b", 5, 5, api.OK},
		{"Code", "\x04\x02", 5, 1, api.ErrMalformed},
		{"Code", "\x04\x01\x05\x40", 5, 3, api.ErrMalformed},
		{"Code", "\x0f\x02\xff\xff\xff\xff\x0f\x7f\x01", 16, 8, api.ErrMalformed},
		{"Code", "\x0f\x02\xff\xff\xff\xff\x0f\x7f\x80\x00\x7f", 16, 11, api.ErrTruncated},
		{"Code", "\x0f\x02\xfe\xff\xff\xff\x0f\x7f\x02", 16, 8, api.ErrMalformed},
		{"Code", "\x0f\x02\xfe\xff\xff\xff\x0f\x7f\x01", 16, 9, api.ErrTruncated},
		{"Code", "\x0f\x02\xfe\xff\xff\xff\x0f\x7f\x82", 16, 8, api.ErrMalformed},
		{"Code", "\x0f\x02\xfe\xff\xff\xff\x0f\x7f\x81", 16, 9, api.ErrTruncated},
		{"Code", "\x06\x00\xfc\x08\x00\x00\x0b", 7, 7, api.OK},
		{"Code without", "\x06\x00\xfc\x08\x00\x00\x0b", 7, 3, api.ErrMalformed},
		{"Import", "\x00\x00\x00\x00", 4, 4, api.OK},
		{"Import", "\x00\x00\x04", 9, 2, api.ErrMalformed},
		{"Import", "\x00\x00\x03\x7f\x01", 5, 5, api.OK},
		{"Import", "\x00\x00\x03", 6, 2, api.ErrMalformed},
		{"Import", "\x00\x00\x01", 5, 2, api.ErrMalformed},
		{"Import", "\x00\x00\x02\x01\x00\x00", 6, 6, api.OK},
		{"Import", "\x00\x00\x02\x02", 6, 3, api.ErrMalformed},
		{"Import", "\x00\x00", 15, 15, api.ErrTruncated},
		{"Import", "\x00\x00", 16, 1, api.ErrMalformed},
		{"Import", "\x00\x00\x01", 15, 15, api.ErrTruncated},
		{"Import", "\x00\x00\x02", 15, 2, api.ErrMalformed},
		{"Import", "\x00\x00\x02", 14, 14, api.ErrTruncated},
		{"Import", "\x00\x00\x00", 9, 2, api.ErrMalformed},
		{"Import", "\x00\x00\x00", 8, 8, api.ErrTruncated},
		{"Import", "\x01\x00\x00", 4, 0, api.ErrMalformed},
		{"Import", "\x00\x81", 5, 1, api.ErrMalformed},
		{"Import", "\x02\xc3\x61", 9, 2, api.ErrMalformed},
		{"Import", "\x01\xc3", 9, 1, api.ErrMalformed},
		{"Import", "\x00", 30, 30, api.ErrTruncated},
		{"Export", "\x00\x03\x00", 3, 3, api.OK},
		{"Export", "\x00\x04", 3, 1, api.ErrMalformed},
		{"Export", "\x01", 3, 0, api.ErrMalformed},
		{"Export", "\x00", 9, 0, api.ErrMalformed},
		{"Export", "\x00\x00\x80\x80\x80\x80\x10", 7, 6, api.ErrMalformed},
		{"Global", "\x7f\x00\x0b", 3, 3, api.OK},
		{"Global", "\x7f", 2, 0, api.ErrMalformed},
		{"Global", "\x7f\x02", 3, 1, api.ErrMalformed},
		{"Global", "\x40", 3, 0, api.ErrMalformed},
		{"Global", "\x7f\x00\x0b", 4, 2, api.ErrMalformed},
	} {
		if x.place > len(x.b) {
			x.place = len(x.b)
		}
		got, n, e, _ := told(x.b, x.limit, all[x.name], end)
		if n != x.place || e != x.err {
			t.Errorf("P9.2: %s of %x within %d: %v %d %d, not %d %d", x.name, x.b, x.limit, got, n, e, x.place, x.err)
		}
	}
}

func TestCodesTold(t *testing.T) {
	k := everyKind()[5]
	b := "\x11\x07\x00\x7f\x01\x7e\x00\x7f\x02\x7e\x03\x7f\x84\x00\x7f\x00\x70\x0b"
	got, n, e, _ := told(b, len(b), k, span.Span{})
	if want := (Code{Locals: []Run{{3, wtype.I64}, {7, wtype.I32}}}); e != api.OK || n != len(b) || !got.(Code).Same(want) {
		t.Errorf("P9.2: runs: %v %d %d", got, n, e)
	}
	if put := got.Put(nil); string(put) != "\x06\x02\x03\x7e\x07\x7f\x0b" {
		t.Errorf("P9.1: runs put: %x", put)
	}
}

func ref(n uint32) []instr.Instr { return []instr.Instr{{Op: op.Op{Code: 0xd2}, X: n}} }

// TestPut holds what each form puts against the document's bytes.
func TestPut(t *testing.T) {
	null := []instr.Instr{{Op: op.Op{Code: 0xd0}, Types: []wtype.Val{wtype.ExternRef}}}
	at := []instr.Instr{{Op: op.Op{Code: 0x41}, N: 5}}
	for _, x := range []struct {
		x    thing
		want string
	}{
		{Elem{Mode: 1, Type: wtype.FuncRef, Init: [][]instr.Instr{ref(7)}}, "\x01\x00\x01\x07"},
		{Elem{Type: wtype.FuncRef, Offset: at, Init: [][]instr.Instr{ref(7), ref(300)}}, "\x00\x41\x05\x0b\x02\x07\xac\x02"},
		{Elem{Type: wtype.FuncRef, Table: 3, Offset: at, Init: [][]instr.Instr{ref(7)}}, "\x02\x03\x41\x05\x0b\x00\x01\x07"},
		{Elem{Mode: 2, Type: wtype.FuncRef}, "\x03\x00\x00"},
		{Elem{Type: wtype.FuncRef, Offset: at, Init: [][]instr.Instr{ref(7), nil}}, "\x04\x41\x05\x0b\x02\xd2\x07\x0b\x0b"},
		{Elem{Mode: 1, Type: wtype.ExternRef}, "\x05\x6f\x00"},
		{Elem{Mode: 1, Type: wtype.ExternRef, Init: [][]instr.Instr{ref(7)}}, "\x05\x6f\x01\xd2\x07\x0b"},
		{Elem{Type: wtype.ExternRef, Offset: at}, "\x06\x00\x41\x05\x0b\x6f\x00"},
		{Elem{Type: wtype.FuncRef, Table: 1, Offset: at, Init: [][]instr.Instr{append(ref(1), null...)}}, "\x06\x01\x41\x05\x0b\x70\x01\xd2\x01\xd0\x6f\x0b"},
		{Elem{Mode: 2, Type: wtype.ExternRef, Init: [][]instr.Instr{null}}, "\x07\x6f\x01\xd0\x6f\x0b"},
		{Elem{Type: wtype.FuncRef}, "\x00\x0b\x00"},
		{Data{Bytes: "ab"}, "\x01\x02ab"},
		{Data{Active: true, Offset: at, Bytes: "ab"}, "\x00\x41\x05\x0b\x02ab"},
		{Data{Active: true, Memory: 128, Offset: at}, "\x02\x80\x01\x41\x05\x0b\x00"},
		{Code{Locals: []Run{{300, wtype.I32}}, Body: at}, "\x07\x01\xac\x02\x7f\x41\x05\x0b"},
		{Global{wtype.Global{Type: wtype.I32, Mut: true}, at}, "\x7f\x01\x41\x05\x0b"},
		{Import{Module: "a", Name: "bc", Kind: 0, Func: 5}, "\x01a\x02bc\x00\x05"},
		{Import{Kind: 1, Table: wtype.Table{Elem: wtype.FuncRef, Limits: wtype.Limits{Min: 1}}}, "\x00\x00\x01\x70\x00\x01"},
		{Import{Kind: 2, Memory: wtype.Limits{HasMax: true, Min: 1, Max: 2}}, "\x00\x00\x02\x01\x01\x02"},
		{Import{Kind: 3, Global: wtype.Global{Type: wtype.F32}}, "\x00\x00\x03\x7d\x00"},
		{Export{Name: "x", Kind: 2, Index: 128}, "\x01x\x02\x80\x01"},
	} {
		if got := string(x.x.Put([]byte("!"))); got != "!"+x.want || !x.x.Right() {
			t.Errorf("P9.1: Put of %v: %x, not %x, right %v", x.x, got[1:], x.want, x.x.Right())
		}
	}
	long := strings.Repeat("\xff", 128)
	if got := string(PutText([]byte("!"), long)); got != "!\x80\x01"+long {
		t.Errorf("P9.1: PutText: %x", got)
	}
	if got := string(PutText(nil, "")); got != "\x00" {
		t.Errorf("P9.1: PutText of nothing: %x", got)
	}
}

func TestWrongOnes(t *testing.T) {
	bad := []instr.Instr{{Op: op.Op{Code: 0x0b}}}
	some := wtype.Limits{Min: 1}
	for _, x := range []thing{
		Import{Kind: 4}, Import{Kind: -1}, Import{Module: "\xff"}, Import{Name: "\xc3"}, Import{Kind: 1}, Import{Kind: 3},
		Import{Kind: 0, Table: wtype.Table{Elem: wtype.FuncRef}}, Import{Kind: 2, Func: 1}, Import{Kind: 2, Memory: wtype.Limits{Max: 1}},
		Import{Kind: 0, Memory: some}, Import{Kind: 0, Global: wtype.Global{Mut: true}}, Import{Kind: 1, Table: wtype.Table{Elem: wtype.I32}},
		Import{Kind: 1, Table: wtype.Table{Elem: wtype.FuncRef}, Memory: some}, Import{Kind: 3, Global: wtype.Global{Type: 5}},
		Export{Kind: 4}, Export{Kind: -1}, Export{Name: "a\x80"},
		Global{}, Global{Type: wtype.Global{Type: wtype.I32}, Init: bad}, Global{Type: wtype.Global{Type: 0x40}},
		Elem{}, Elem{Type: wtype.I32}, Elem{Mode: 3, Type: wtype.FuncRef}, Elem{Mode: -1, Type: wtype.FuncRef}, Elem{Mode: 1, Type: wtype.FuncRef, Table: 1},
		Elem{Mode: 2, Type: wtype.FuncRef, Offset: ref(1)}, Elem{Type: wtype.FuncRef, Offset: bad}, Elem{Type: wtype.FuncRef, Init: [][]instr.Instr{nil, bad}},
		Data{Memory: 1}, Data{Offset: ref(1)}, Data{Active: true, Offset: bad},
		Code{Body: bad}, Code{Locals: []Run{{0, wtype.I32}}}, Code{Locals: []Run{{1, 0}}}, Code{Locals: []Run{{1, wtype.I32}, {2, wtype.I32}}},
		Code{Locals: []Run{{math.MaxUint32, wtype.I32}, {1, wtype.I64}}},
	} {
		if x.Right() {
			t.Errorf("P9.1: %#v is not right", x)
		}
		x.Put(nil)
	}
	for _, x := range []thing{Code{Locals: []Run{{1, wtype.I32}, {2, wtype.I64}, {math.MaxUint32 - 3, wtype.I32}}}, Data{Active: true, Memory: 1}, Import{}, Import{Kind: 2}, Export{Name: "€"}} {
		if !x.Right() {
			t.Errorf("P9.1: %#v is right", x)
		}
	}
}

func TestSame(t *testing.T) {
	g := func() Global { return Global{wtype.Global{Type: wtype.I32, Mut: true}, ref(1)} }
	for i, change := range []func(g *Global){func(*Global) {}, func(g *Global) { g.Type.Mut = false }, func(g *Global) { g.Type.Type = wtype.I64 }, func(g *Global) { g.Init = ref(2) }, func(g *Global) { g.Init = nil }} {
		o := g()
		if change(&o); g().Same(o) != (i == 0) {
			t.Errorf("P9.1: Global.Same %d", i)
		}
	}
	e := func() Elem {
		return Elem{Mode: 0, Type: wtype.FuncRef, Table: 1, Offset: ref(1), Init: [][]instr.Instr{ref(2), ref(3)}}
	}
	for i, change := range []func(e *Elem){func(*Elem) {}, func(e *Elem) { e.Mode = 1 }, func(e *Elem) { e.Type = wtype.ExternRef }, func(e *Elem) { e.Table = 2 }, func(e *Elem) { e.Offset = nil }, func(e *Elem) { e.Init = e.Init[:1] }, func(e *Elem) { e.Init[1] = ref(4) }} {
		o := e()
		if change(&o); e().Same(o) != (i == 0) {
			t.Errorf("P9.1: Elem.Same %d", i)
		}
	}
	d := func() Data { return Data{Active: true, Memory: 1, Offset: ref(1), Bytes: "a"} }
	for i, change := range []func(d *Data){func(*Data) {}, func(d *Data) { d.Active = false }, func(d *Data) { d.Memory = 0 }, func(d *Data) { d.Offset = ref(2) }, func(d *Data) { d.Bytes = "b" }} {
		o := d()
		if change(&o); d().Same(o) != (i == 0) {
			t.Errorf("P9.1: Data.Same %d", i)
		}
	}
	c := func() Code { return Code{Locals: []Run{{1, wtype.I32}}, Body: ref(1)} }
	for i, change := range []func(c *Code){func(*Code) {}, func(c *Code) { c.Locals = nil }, func(c *Code) { c.Locals[0].Count = 2 }, func(c *Code) { c.Locals[0].Type = wtype.I64 }, func(c *Code) { c.Body = nil }} {
		o := c()
		if change(&o); c().Same(o) != (i == 0) {
			t.Errorf("P9.1: Code.Same %d", i)
		}
	}
	if !(Elem{}).Same(Elem{Offset: []instr.Instr{}, Init: [][]instr.Instr{}}) || !(Code{}).Same(Code{Locals: []Run{}, Body: []instr.Instr{}}) {
		t.Error("P9.1: lists that are empty are the same")
	}
}

// TestWithoutLimit reads ahead of what has no bound.
func TestWithoutLimit(t *testing.T) {
	r := rand.New(rand.NewSource(5))
	for range 300 {
		for _, k := range everyKind() {
			x, s := k.some(r)
			n, e := cursor.Try([]byte(s), func(c *cursor.Cursor) {
				if got := k.read(c, span.Span{Max: span.Endless}); !k.same(got, x) {
					t.Errorf("P9.2: %s of %x: %v, not %v", k.name, s, got, x)
				}
			})
			if n != len(s) || e != api.OK {
				t.Errorf("P9.2: %s of %x: %d %d", k.name, s, n, e)
			}
		}
	}
}

// TestDataAlone: an element and a global may have to do with data, a code and data without data not.
func TestDataAlone(t *testing.T) {
	r := rand.New(rand.NewSource(6))
	for range 500 {
		x, s := someCode(r, true)
		_, n, e, _ := told(s, len(s), everyKind()[7], span.Span{})
		if has := expr.Data(x.Body); has != (e == api.ErrMalformed) || has && s[n-1] != 0xfc {
			t.Fatalf("P9.2: %x without data: %d %d", s, n, e)
		}
	}
}
