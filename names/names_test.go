package names

import (
	"math"
	"math/rand"
	"strings"
	"testing"

	"dobby/api"
	"dobby/module"
)

// long is v, perhaps in more bytes than it needs.
func long(r *rand.Rand, v int) string {
	n := 1
	for n < 5 && v>>(7*n) != 0 {
		n++
	}
	if r.Intn(3) == 0 {
		n += r.Intn(6 - n)
	}
	b := make([]byte, n)
	for i := range b {
		b[i] = byte(v>>(7*i)) | 128
	}
	b[n-1] &= 127
	return string(b)
}

func someText(r *rand.Rand) (string, string) {
	s := []string{"", "a", "€", "f\x00g", strings.Repeat("é", 70)}[r.Intn(5)]
	return s, long(r, len(s)) + s
}

// rising are some indexes.
func rising(r *rand.Rand) []uint32 {
	var l []uint32
	for _, v := range []uint32{0, 1, 2, 127, 128, 300, 1 << 28, math.MaxUint32 - 1, math.MaxUint32} {
		if r.Intn(3) == 0 {
			l = append(l, v)
		}
	}
	return l
}

func someNames(r *rand.Rand) ([]Name, string) {
	var l []Name
	s := ""
	for _, index := range rising(r) {
		text, b := someText(r)
		l, s = append(l, Name{index, text}), s+long(r, int(index))+b
	}
	return l, long(r, len(l)) + s
}

// some are right names, and their bytes, perhaps more than they need.
func some(r *rand.Rand) (Names, string) {
	n, s := Names{HasModule: r.Intn(2) == 0, HasFuncs: r.Intn(2) == 0, HasLocals: r.Intn(2) == 0}, ""
	row := func(number, content string) { s += number + long(r, len(content)) + content }
	var b string
	if n.HasModule {
		n.Module, b = someText(r)
		row("\x00", b)
	}
	if n.HasFuncs {
		n.Funcs, b = someNames(r)
		row("\x01", b)
	}
	if n.HasLocals {
		all := ""
		for _, index := range rising(r) {
			l, b := someNames(r)
			n.Locals, all = append(n.Locals, Local{index, l}), all+long(r, int(index))+b
		}
		row("\x02", long(r, len(n.Locals))+all)
	}
	return n, s
}

func TestThereAndBack(t *testing.T) {
	r := rand.New(rand.NewSource(1))
	for range 3000 {
		n, s := some(r)
		if !n.Right() || !n.Same(n) {
			t.Fatalf("P14.1: %v: right %v", n, n.Right())
		}
		got, ok := Read(s)
		if !got.Same(n) || !ok {
			t.Fatalf("P14.2: %x: %v %v, not %v", s, got, ok, n)
		}
		put, e := n.Put()
		if back, ok := Read(put); e != api.OK || !ok || !back.Same(n) || len(put) > len(s) {
			t.Fatalf("P14.3: %x, put for %v: %v %v %d", put, n, back, ok, e)
		}
		if len(s) == 0 {
			continue
		}
		if got, ok := Read(s + "\x00"); ok || !got.Same(Names{}) {
			t.Fatalf("P14.2: %x, and one byte more: %v", s, got)
		}
		if got, ok := Read(s[:len(s)-1]); ok || !got.Same(Names{}) {
			t.Fatalf("P14.2: %x without its last byte: %v", s, got)
		}
	}
}

func TestPut(t *testing.T) {
	for want, n := range map[string]Names{
		"":                                     {},
		"\x00\x02\x01m":                        {HasModule: true, Module: "m"},
		"\x00\x01\x00":                         {HasModule: true},
		"\x01\x01\x00":                         {HasFuncs: true},
		"\x02\x01\x00":                         {HasLocals: true},
		"\x01\x07\x02\x00\x01a\x80\x01\x00":    {HasFuncs: true, Funcs: []Name{{0, "a"}, {128, ""}}},
		"\x02\x07\x02\x05\x00\x07\x01\x00\x00": {HasLocals: true, Locals: []Local{{5, nil}, {7, []Name{{0, ""}}}}},
		"\x00\x03\x02ab\x01\x04\x01\x03\x01c\x02\x06\x01\x03\x01\x00\x01d": {HasModule: true, HasFuncs: true, HasLocals: true, Module: "ab", Funcs: []Name{{3, "c"}}, Locals: []Local{{3, []Name{{0, "d"}}}}},
		"\x00\xca\x01\xc8\x01" + strings.Repeat("x", 200):                  {HasModule: true, Module: strings.Repeat("x", 200)},
	} {
		if got, e := n.Put(); got != want || e != api.OK {
			t.Errorf("P14.1: Put of %v: %x %d, not %x", n, got, e, want)
		}
		if got, ok := Read(want); !ok || !got.Same(n) {
			t.Errorf("P14.2: Read of %x: %v %v", want, got, ok)
		}
	}
}

func TestWrongOnes(t *testing.T) {
	for _, n := range []Names{
		{Module: "m"}, {Funcs: []Name{{0, ""}}}, {Locals: []Local{{0, nil}}},
		{HasModule: true, Module: "\xff"}, {HasFuncs: true, Funcs: []Name{{0, "\xc3"}}},
		{HasFuncs: true, Funcs: []Name{{1, ""}, {1, ""}}}, {HasFuncs: true, Funcs: []Name{{2, ""}, {1, ""}}},
		{HasLocals: true, Locals: []Local{{1, nil}, {1, nil}}}, {HasLocals: true, Locals: []Local{{2, nil}, {0, nil}}},
		{HasLocals: true, Locals: []Local{{1, []Name{{1, ""}, {0, ""}}}}}, {HasLocals: true, Locals: []Local{{1, []Name{{1, "\x80"}}}}},
	} {
		if got, e := n.Put(); n.Right() || got != "" || e != api.ErrValue {
			t.Errorf("P14.1: %v: right %v, put %x %d", n, n.Right(), got, e)
		}
	}
	if !(Names{HasFuncs: true, Funcs: []Name{{math.MaxUint32 - 1, ""}, {math.MaxUint32, ""}}}).Right() {
		t.Error("P14.1: the greatest index")
	}
}

func TestOpaque(t *testing.T) {
	for _, s := range []string{
		"\x00", "\x03\x00", "\x03\x01\x00", "\x00\x00", "\x00\x02\x01\xff", "\x00\x02\x00\x00", "\x00\x01\x01", "\x00\x02\x01",
		"\x00\x01\x00\x00\x01\x00", "\x01\x01\x00\x00\x01\x00", "\x02\x01\x00\x01\x01\x00", "\x01\x01\x00\x01\x01\x00",
		"\x01\x05\x02\x01\x00\x01\x00", "\x01\x05\x02\x01\x00\x00\x00", "\x01\x03\x02\x01\x00", "\x01\x04\x01\x01\x00\x00",
		"\x01\x80\x80\x80\x80\x10\x00", "\x01\x08\x01\x80\x80\x80\x80\x10\x00",
		"\x01\x0d\x02\xff\xff\xff\xff\x0f\x00\xff\xff\xff\xff\x0f\x00", "\x01\x09\x02\xff\xff\xff\xff\x0f\x00\x00\x00",
		"\x02\x05\x02\x01\x00\x01\x00", "\x02\x03\x01\x00\x01", "\x02\x07\x01\x00\x02\x01\x00\x01\x00", "\x00\x01\x00\xff", "\x02\x02\x00\x00",
	} {
		if n, ok := Read(s); ok || !n.Same(Names{}) {
			t.Errorf("P14.2: %x is opaque: %v", s, n)
		}
	}
	if n, ok := Read("\x01\x0b\x02\xfe\xff\xff\xff\x0f\x00\xff\xff\xff\xff\x0f\x00"); ok {
		t.Errorf("P14.2: a row that is longer than it tells: %v", n)
	}
	if n, ok := Read("\x01\x0d\x02\xfe\xff\xff\xff\x0f\x00\xff\xff\xff\xff\x0f\x00"); !ok || len(n.Funcs) != 2 {
		t.Errorf("P14.2: the greatest indexes: %v", n)
	}
	if n, ok := Read(""); !ok || !n.Same(Names{}) {
		t.Errorf("P14.2: no rows: %v %v", n, ok)
	}
}

func TestOf(t *testing.T) {
	right, other := "\x00\x02\x01m", "\x00\x02\x01n"
	for i, x := range []struct {
		customs []module.Custom
		module  string
		ok      bool
	}{
		{nil, "", false},
		{[]module.Custom{{Name: "names", Bytes: right}, {Name: "", Bytes: right}, {Name: "Name", Bytes: right}}, "", false},
		{[]module.Custom{{Name: "name", Bytes: right}}, "m", true},
		{[]module.Custom{{Name: "x", Bytes: other}, {Gap: 3, Name: "name", Bytes: right}, {Gap: 3, Name: "name", Bytes: other}}, "m", true},
		{[]module.Custom{{Name: "name", Bytes: "\x00"}, {Name: "name", Bytes: right}}, "", false},
		{[]module.Custom{{Name: "name"}}, "", true},
	} {
		n, ok := Of(module.Module{Customs: x.customs})
		if ok != x.ok || !n.Same(Names{HasModule: x.module != "", Module: x.module}) {
			t.Errorf("P14.2: Of %d: %v %v", i, n, ok)
		}
	}
}

func TestSame(t *testing.T) {
	full := func() Names {
		return Names{HasModule: true, HasFuncs: true, HasLocals: true, Module: "m", Funcs: []Name{{1, "f"}}, Locals: []Local{{1, []Name{{0, "l"}}}}}
	}
	for i, change := range []func(n *Names){
		func(n *Names) {}, func(n *Names) { n.HasModule = false }, func(n *Names) { n.HasFuncs = false }, func(n *Names) { n.HasLocals = false },
		func(n *Names) { n.Module = "" }, func(n *Names) { n.Funcs[0].Index = 2 }, func(n *Names) { n.Funcs[0].Text = "g" }, func(n *Names) { n.Funcs = nil },
		func(n *Names) { n.Locals = nil }, func(n *Names) { n.Locals[0].Func = 0 }, func(n *Names) { n.Locals[0].Names = nil }, func(n *Names) { n.Locals[0].Names[0].Text = "" },
	} {
		n := full()
		if change(&n); n.Same(full()) != (i == 0) || full().Same(n) != (i == 0) {
			t.Errorf("P14.1: Same %d", i)
		}
	}
	if !(Names{Funcs: []Name{}, Locals: []Local{}}).Same(Names{}) {
		t.Error("P14.1: lists that are empty are the same")
	}
}

// TestAllShort holds Read against what it puts: what it reads is right, and read again it is the same.
func TestAllShort(t *testing.T) {
	r := rand.New(rand.NewSource(2))
	some := []byte{0, 0, 0, 1, 1, 1, 2, 2, 3, 4, 5, 6, 0x61, 0x80, 0x81, 0xc3, 0xff}
	told := 0
	for range 300000 {
		b := make([]byte, r.Intn(10))
		for i := range b {
			b[i] = some[r.Intn(len(some))]
		}
		n, ok := Read(string(b))
		if !ok {
			continue
		}
		told++
		put, e := n.Put()
		if back, again := Read(put); e != api.OK || !again || !back.Same(n) || len(put) > len(b) {
			t.Fatalf("P14.3: %x: %v, put %x %d", b, n, put, e)
		}
	}
	if told < 1000 {
		t.Errorf("%d of them told names", told)
	}
}
