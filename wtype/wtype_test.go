package wtype

import (
	"math"
	"math/rand"
	"reflect"
	"slices"
	"testing"

	"dobby/api"
	"dobby/cursor"
	"dobby/span"
)

var all = []Val{I32, I64, F32, F64, V128, FuncRef, ExternRef}

// someNumber is one whose bytes are many, or few.
func someNumber(r *rand.Rand) uint32 {
	return []uint32{0, 1, 5, 127, 128, 300, 1 << 14, 1<<21 - 1, 1 << 28, math.MaxUint32, r.Uint32()}[r.Intn(11)]
}

// number32 is v, in more bytes than it needs by so many.
func number32(v uint32, more int) string {
	var b []byte
	for v >= 128 || more > 0 && len(b) < 4 {
		if v < 128 {
			more--
		}
		b = append(b, byte(v)|128)
		v >>= 7
	}
	return string(append(b, byte(v)))
}

func someVals(r *rand.Rand, most int) []Val {
	var l []Val
	for range r.Intn(most + 1) {
		l = append(l, all[r.Intn(len(all))])
	}
	return l
}

func longVals(r *rand.Rand, l []Val) string {
	s := number32(uint32(len(l)), r.Intn(3))
	for _, v := range l {
		s += string([]byte{byte(v)})
	}
	return s
}

func longLimits(r *rand.Rand, l Limits) string {
	if l.HasMax {
		return "\x01" + number32(l.Min, r.Intn(3)) + number32(l.Max, r.Intn(3))
	}
	return "\x00" + number32(l.Min, r.Intn(3))
}

func someLimits(r *rand.Rand) Limits {
	l := Limits{HasMax: r.Intn(2) == 0, Min: someNumber(r)}
	if l.HasMax {
		l.Max = someNumber(r)
	}
	return l
}

// kind is one kind of things that are read: what comes, some one of it (also in more bytes than it needs), and its own bytes.
type kind struct {
	name  string
	read  func(c *cursor.Cursor, behind span.Span) interface{}
	some  func(r *rand.Rand) (interface{}, string)
	put   func(x interface{}) []byte
	least int
	most  int
}

func kinds() []kind {
	return []kind{
		{"Func", func(c *cursor.Cursor, behind span.Span) interface{} { return ReadFunc(c, behind) }, func(r *rand.Rand) (interface{}, string) {
			f := Func{someVals(r, 4), someVals(r, 4)}
			return f, "\x60" + longVals(r, f.Params) + longVals(r, f.Results)
		}, func(x interface{}) []byte { return x.(Func).Put(nil) }, 3, span.Endless},
		{"Vals", func(c *cursor.Cursor, behind span.Span) interface{} { return ReadVals(c, behind) }, func(r *rand.Rand) (interface{}, string) {
			l := someVals(r, 6)
			return l, longVals(r, l)
		}, func(x interface{}) []byte { return PutVals(nil, x.([]Val)) }, 1, span.Endless},
		{"Limits", func(c *cursor.Cursor, behind span.Span) interface{} { return ReadLimits(c, behind) }, func(r *rand.Rand) (interface{}, string) {
			l := someLimits(r)
			return l, longLimits(r, l)
		}, func(x interface{}) []byte { return x.(Limits).Put(nil) }, 2, 11},
		{"Table", func(c *cursor.Cursor, behind span.Span) interface{} { return ReadTable(c, behind) }, func(r *rand.Rand) (interface{}, string) {
			x := Table{all[5+r.Intn(2)], someLimits(r)}
			return x, string([]byte{byte(x.Elem)}) + longLimits(r, x.Limits)
		}, func(x interface{}) []byte { return x.(Table).Put(nil) }, 3, 12},
	}
}

// told is what reading b tells, within so many bytes, all behind it taken as it is; whole: it was all read.
func told(b string, limit int, k kind, behind span.Span) (x interface{}, n int, e api.Errno, whole bool) {
	n, e = cursor.Try([]byte(b), func(c *cursor.Cursor) {
		c.Within(limit, func() {
			x = k.read(c, behind)
			whole = behind.Has(c.Rest())
			c.Raw(c.Rest())
		})
	})
	return x, n, e, whole
}

// TestReadInMoreBytes: what comes is read, and each front of it, within just as many bytes as behind may have.
func TestReadInMoreBytes(t *testing.T) {
	r := rand.New(rand.NewSource(1))
	for range 4000 {
		for _, k := range kinds() {
			x, s := k.some(r)
			more := r.Intn(3)
			behind := span.Span{Min: more - r.Intn(more+1), Max: more + r.Intn(2)}
			if r.Intn(3) == 0 {
				behind.Max = span.Endless
			}
			limit := len(s) + more
			b := s + "\xff\xff"[:more]
			if got, n, e, whole := told(b, limit, k, behind); !reflect.DeepEqual(got, x) || n != limit || e != api.OK || !whole {
				t.Fatalf("P5.2: %s of %x: %v %d %d, not %v", k.name, b, got, n, e, x)
			}
			for i := range s {
				if _, n, e, _ := told(b[:i], limit, k, behind); n != i || e != api.ErrTruncated {
					t.Fatalf("P5.2: %s of the front %x, within %d: %d %d", k.name, b[:i], limit, n, e)
				}
			}
			if got, n, e, _ := told(string(k.put(x)), len(k.put(x)), k, span.Span{}); !reflect.DeepEqual(got, x) || n > len(s) || e != api.OK {
				t.Fatalf("P5.4: %s of %x: %v %d %d, not %v", k.name, k.put(x), got, n, e, x)
			}
		}
	}
}

// TestEachFrontGoesOn: as long as bytes lack alone, there is a byte with which something can come, up to the end.
func TestEachFrontGoesOn(t *testing.T) {
	r := rand.New(rand.NewSource(2))
	for i := range 1600 {
		k := kinds()[i%4]
		behind := span.Span{Min: r.Intn(3)}
		behind.Max = behind.Min + r.Intn(2)
		if r.Intn(3) == 0 {
			behind.Max = span.Endless
		}
		limit := r.Intn(16)
		possible := k.least+behind.Min <= limit && (k.most == span.Endless || behind.Max == span.Endless || limit <= k.most+behind.Max)
		b := ""
		for {
			_, _, e, whole := told(b, limit, k, behind)
			if e != api.ErrTruncated || whole {
				if limit > 0 && (!possible || e == api.ErrMalformed || !whole) {
					t.Fatalf("P5.2: %s of %x within %d, behind %v: %d, possible %v", k.name, b, limit, behind, e, possible)
				}
				break
			}
			var next []byte
			for x := range 256 {
				if _, n, e, _ := told(b+string([]byte{byte(x)}), limit, k, behind); e != api.ErrMalformed {
					next = append(next, byte(x))
				} else if n != len(b) {
					t.Fatalf("P5.2: %s of %x: wrong at %d, but %x is a front", k.name, b, n, b)
				}
			}
			if len(next) == 0 {
				if b != "" || possible {
					t.Fatalf("P5.2: %s within %d, behind %v: nothing comes behind %x, possible %v", k.name, limit, behind, b, possible)
				}
				break
			}
			b += string([]byte{next[r.Intn(len(next))]})
		}
	}
}

func TestWrongAt(t *testing.T) {
	end := span.Span{}
	for _, x := range []struct {
		name   string
		b      string
		limit  int
		behind span.Span
		place  int
		err    api.Errno
	}{
		{"Limits", "\x01\x01\x82\x00", 4, end, 4, api.OK},
		{"Limits", "\x01\x81\x82", 4, end, 2, api.ErrMalformed},
		{"Limits", "\x02\x00", 2, end, 0, api.ErrMalformed},
		{"Limits", "\x01\x00", 2, end, 0, api.ErrMalformed},
		{"Limits", "\x00", 7, end, 0, api.ErrMalformed},
		{"Limits", "\x01", 12, end, 0, api.ErrMalformed},
		{"Limits", "\x00\x80\x80\x80\x80\x10", 6, end, 5, api.ErrMalformed},
		{"Func", "\x60\x01", 3, end, 1, api.ErrMalformed},
		{"Func", "\x60\x00\x00", 3, end, 3, api.OK},
		{"Func", "\x60", 2, end, 0, api.ErrMalformed},
		{"Func", "\x61", 5, end, 0, api.ErrMalformed},
		{"Func", "\x60\x01\x7a", 4, end, 2, api.ErrMalformed},
		{"Func", "\x60\x00\x01", 3, end, 2, api.ErrMalformed},
		{"Func", "\x60\x02\x7f", 9, end, 3, api.ErrTruncated},
		{"Table", "\x7f\x00\x00", 3, end, 0, api.ErrMalformed},
		{"Table", "\x70\x00\x00", 3, end, 3, api.OK},
		{"Table", "\x70", 2, end, 0, api.ErrMalformed},
		{"Table", "\x6f", 13, end, 0, api.ErrMalformed},
		{"Table", "\x6f\x00", 12, end, 1, api.ErrMalformed},
		{"Vals", "\x02\x7f\x70", 3, end, 3, api.OK},
		{"Vals", "\x02\x7f\x40", 3, end, 2, api.ErrMalformed},
		{"Vals", "\x02", 4, end, 0, api.ErrMalformed},
	} {
		for _, k := range kinds() {
			if k.name != x.name {
				continue
			}
			got, n, e, _ := told(x.b, x.limit, k, x.behind)
			if n != x.place || e != x.err {
				t.Errorf("P5.2: %s of %x within %d: %v %d %d, not %d %d", x.name, x.b, x.limit, got, n, e, x.place, x.err)
			}
		}
	}
}

// TestWithoutLimit: then what has no bound may stand behind.
func TestWithoutLimit(t *testing.T) {
	end := span.Span{Max: span.Endless}
	n, e := cursor.Try([]byte("\x60\x01\x7f\x00\x00\x05\x70\x01\x01\x02\x7b\x01\x00"), func(c *cursor.Cursor) {
		if f := ReadFunc(c, end); !f.Same(Func{Params: []Val{I32}}) {
			t.Errorf("P5.2: %v", f)
		}
		if l := ReadLimits(c, end); l != (Limits{Min: 5}) {
			t.Errorf("P5.2: %v", l)
		}
		if x := ReadTable(c, end); x != (Table{FuncRef, Limits{true, 1, 2}}) {
			t.Errorf("P5.2: %v", x)
		}
		if g := ReadGlobal(c); g != (Global{V128, true}) {
			t.Errorf("P5.2: %v", g)
		}
		if l := ReadVals(c, end); len(l) != 0 {
			t.Errorf("P5.2: %v", l)
		}
	})
	if n != 13 || e != api.OK {
		t.Errorf("P5.2: %d %d", n, e)
	}
	if n, e := cursor.Try([]byte("\xff\xff\xff\xff\x0f\x7f"), func(c *cursor.Cursor) { ReadVals(c, end) }); n != 6 || e != api.ErrTruncated {
		t.Errorf("P5.2: very many: %d %d", n, e)
	}
}

func TestSingleBytes(t *testing.T) {
	for x := range 256 {
		v := Val(x)
		right, ref := slices.Contains(all, v), v == FuncRef || v == ExternRef
		if v.Right() != right || v.Ref() != ref {
			t.Errorf("P5.1: %x: Right %v, Ref %v", x, v.Right(), v.Ref())
		}
		for _, y := range []struct {
			read func(c *cursor.Cursor) interface{}
			b    []byte
			want interface{}
			bad  int
		}{
			{func(c *cursor.Cursor) interface{} { return ReadVal(c) }, []byte{byte(x)}, v, map[bool]int{true: -1}[right]},
			{func(c *cursor.Cursor) interface{} { return ReadRef(c) }, []byte{byte(x)}, v, map[bool]int{true: -1}[ref]},
			{func(c *cursor.Cursor) interface{} { return ReadGlobal(c) }, []byte{byte(x), 0}, Global{Type: v}, map[bool]int{true: -1}[right]},
			{func(c *cursor.Cursor) interface{} { return ReadGlobal(c) }, []byte{0x7f, byte(x)}, Global{Type: I32, Mut: x == 1}, map[bool]int{true: -1, false: 1}[x < 2]},
		} {
			var got interface{}
			n, e := cursor.Try(y.b, func(c *cursor.Cursor) { got = y.read(c) })
			if y.bad < 0 && (got != y.want || e != api.OK) || y.bad >= 0 && (n != y.bad || e != api.ErrMalformed) {
				t.Errorf("P5.2: %x: %v %d %d", y.b, got, n, e)
			}
		}
	}
}

func TestRightSamePut(t *testing.T) {
	f := Func{[]Val{I32, V128}, []Val{ExternRef}}
	if !f.Right() || !(Func{}).Right() || (Func{Params: []Val{I32, 0}}).Right() || (Func{Results: []Val{0x40}}).Right() {
		t.Error("P5.1: Func.Right")
	}
	if !f.Same(Func{[]Val{I32, V128}, []Val{ExternRef}}) || f.Same(Func{[]Val{I32, V128}, nil}) || f.Same(Func{[]Val{I32}, []Val{ExternRef}}) || f.Same(Func{[]Val{V128, I32}, []Val{ExternRef}}) || !(Func{}).Same(Func{[]Val{}, []Val{}}) {
		t.Error("P5.1: Func.Same")
	}
	if !(Limits{true, 9, 3}).Right() || !(Limits{false, 9, 0}).Right() || (Limits{false, 0, 1}).Right() {
		t.Error("P5.1: Limits.Right")
	}
	if !(Table{Elem: ExternRef}).Right() || (Table{Elem: I32}).Right() || (Table{}).Right() || (Table{FuncRef, Limits{Max: 1}}).Right() {
		t.Error("P5.1: Table.Right")
	}
	if !(Global{I64, true}).Right() || !(Global{FuncRef, false}).Right() || (Global{0, true}).Right() {
		t.Error("P5.1: Global.Right")
	}
	for want, got := range map[string][]byte{
		"!\x60\x02\x7f\x7b\x01\x6f":             f.Put([]byte("!")),
		"!\x00\x09":                             Limits{Min: 9}.Put([]byte("!")),
		"!\x01\x80\x01\xff\xff\xff\xff\x0f":     Limits{true, 128, math.MaxUint32}.Put([]byte("!")),
		"!\x70\x01\x01\x02":                     Table{FuncRef, Limits{true, 1, 2}}.Put([]byte("!")),
		"!\x7e\x01":                             Global{I64, true}.Put([]byte("!")),
		"!\x7d\x00":                             Global{F32, false}.Put([]byte("!")),
		"!\x00":                                 PutVals([]byte("!"), nil),
		"!\x80\x01" + string(make([]byte, 128)): PutVals([]byte("!"), make([]Val, 128)),
		"!\x60\x00\x00":                         Func{}.Put([]byte("!")),
		"!\x05\x00\x01":                         Table{5, Limits{Min: 1}}.Put([]byte("!")),
		"!\x03\x7c\x70\x7f":                     PutVals([]byte("!"), []Val{F64, FuncRef, I32}),
	} {
		if string(got) != want {
			t.Errorf("P5.1: Put: %x, not %x", got, want)
		}
	}
}

func TestWants(t *testing.T) {
	every := []span.Range{{Low: 0, High: math.MaxUint32}}
	fits := func(l []span.Range, v uint64) bool { return span.Fits(l, v, 63, 0, 63) }
	for r := range 8 {
		want := Index(span.Span{Min: 2, Max: 4})(r)
		if r >= 2 && r <= 4 && !slices.Equal(want, every) || (r < 2 || r > 4) && (fits(want, 0) || fits(want, 7)) {
			t.Errorf("P5.3: Index at %d: %v", r, want)
		}
		for n := range uint64(10) {
			item, behind := span.Span{Min: 1, Max: 2}, span.Span{Min: 1, Max: 1}
			if fits(List(item, behind)(r), n) != item.Times(int(n)).And(behind).Has(r) {
				t.Errorf("P5.3: List at %d: %d", r, n)
			}
		}
	}
	if !slices.Equal(Index(span.Span{Min: 2, Max: span.Endless})(span.Endless), every) || fits(Index(span.Span{Max: 9})(span.Endless), 0) {
		t.Error("P5.3: Index without a limit")
	}
	if l := List(span.Span{Min: 3, Max: span.Endless}, span.Span{})(span.Endless); fits(l, 0) || !fits(l, 1) || !fits(l, math.MaxUint32) {
		t.Errorf("P5.3: List without a limit: %v", l)
	}
}
