package encode

import (
	"math"
	"strings"
	"testing"

	"dobby/api"
	"dobby/entry"
	"dobby/instr"
	"dobby/module"
	"dobby/op"
	"dobby/wtype"
)

const front = "\x00asm\x01\x00\x00\x00"

func of(code uint32) []instr.Instr { return []instr.Instr{{Op: op.Op{Code: code}}} }

// full has of each part what it may have.
func full() module.Module {
	return module.Module{
		Types:    []wtype.Func{{Params: []wtype.Val{wtype.I32}}, {}},
		Imports:  []entry.Import{{Module: "m", Name: "n", Func: 300}},
		Funcs:    []uint32{0, 128},
		Tables:   []wtype.Table{{Elem: wtype.FuncRef}},
		Mems:     []wtype.Limits{{HasMax: true, Min: 1, Max: 2}},
		Globals:  []entry.Global{{Type: wtype.Global{Type: wtype.I64}}},
		Exports:  []entry.Export{{Name: "e", Kind: 3}},
		HasStart: true,
		Start:    200,
		Elems:    []entry.Elem{{Mode: 1, Type: wtype.ExternRef}},
		HasCount: true,
		Codes:    []entry.Code{{}, {Body: of(1)}},
		Datas:    []entry.Data{{Bytes: "d"}},
	}
}

// sections are the full one's, each with its number and its length.
func sections() []string {
	return []string{
		"",
		"\x01\x08\x02\x60\x01\x7f\x00\x60\x00\x00",
		"\x02\x08\x01\x01m\x01n\x00\xac\x02",
		"\x03\x04\x02\x00\x80\x01",
		"\x04\x04\x01\x70\x00\x00",
		"\x05\x04\x01\x01\x01\x02",
		"\x06\x04\x01\x7e\x00\x0b",
		"\x07\x05\x01\x01e\x03\x00",
		"\x08\x02\xc8\x01",
		"\x09\x04\x01\x05\x6f\x00",
		"\x0c\x01\x01",
		"\x0a\x08\x02\x02\x00\x0b\x03\x00\x01\x0b",
		"\x0b\x04\x01\x01\x01d",
	}
}

func TestFull(t *testing.T) {
	want := front + strings.Join(sections(), "")
	if got, e := Encode(full()); string(got) != want || e != api.OK {
		t.Errorf("P11.1: %x %d, not %x", got, e, want)
	}
	for part, s := range sections() {
		if part > 0 {
			s = s[2:]
		}
		if got := string(Section(full(), part)); got != s {
			t.Errorf("P11.1: Section(%d) = %x, not %x", part, got, s)
		}
	}
	for _, part := range []int{-1, 13, math.MaxInt, math.MinInt} {
		if got := Section(full(), part); len(got) != 0 {
			t.Errorf("P11.1: Section(%d) = %x", part, got)
		}
	}
}

func TestNothing(t *testing.T) {
	if got, e := Encode(module.Module{}); string(got) != front || e != api.OK {
		t.Errorf("P11.1: %x %d", got, e)
	}
	for part := 1; part <= 12; part++ {
		if got := Section(module.Module{}, part); string(got) != "\x00" {
			t.Errorf("P11.1: Section(%d) of nothing: %x", part, got)
		}
	}
	got, e := Encode(module.Module{Types: []wtype.Func{{}}})
	if string(got) != front+"\x01\x04\x01\x60\x00\x00" || e != api.OK {
		t.Errorf("P11.1: one type: %x %d", got, e)
	}
	if got, e := Encode(module.Module{HasCount: true}); string(got) != front+"\x0c\x01\x00" || e != api.OK {
		t.Errorf("P11.1: a count: %x %d", got, e)
	}
	if got, e := Encode(module.Module{HasStart: true}); string(got) != front+"\x08\x01\x00" || e != api.OK {
		t.Errorf("P11.1: a start: %x %d", got, e)
	}
}

// TestGaps: customs stand behind the section of their Gap, which is there for them, also without entries.
func TestGaps(t *testing.T) {
	for gap := range 13 {
		m, want := full(), front
		for part, s := range sections() {
			if want += s; part == gap {
				want += "\x00\x03\x01ab" + "\x00\x01\x00"
			}
		}
		m.Customs = []module.Custom{{Gap: gap, Name: "a", Bytes: "b"}, {Gap: gap}}
		if got, e := Encode(m); string(got) != want || e != api.OK {
			t.Errorf("P11.1: customs behind %d: %x %d, not %x", gap, got, e, want)
		}
		empty := module.Module{HasStart: gap == 8, HasCount: gap == 10, Customs: []module.Custom{{Gap: gap, Name: "€", Bytes: "\xff"}}}
		want = front
		if gap > 0 {
			want += string([]byte{module.Id(gap), 1, 0})
		}
		want += "\x00\x05\x03€\xff"
		if got, e := Encode(empty); string(got) != want || e != api.OK {
			t.Errorf("P11.1: a custom alone behind %d: %x %d, not %x", gap, got, e, want)
		}
	}
	m := module.Module{Customs: []module.Custom{{Gap: 0}, {Gap: 2}, {Gap: 12}}}
	if got, e := Encode(m); string(got) != front+"\x00\x01\x00\x02\x01\x00\x00\x01\x00\x0b\x01\x00\x00\x01\x00" || e != api.OK {
		t.Errorf("P11.1: customs behind several: %x %d", got, e)
	}
}

func TestLengths(t *testing.T) {
	bytes := strings.Repeat("x", 200)
	m := module.Module{Customs: []module.Custom{{Name: "n", Bytes: bytes}}, Datas: []entry.Data{{Bytes: bytes}}}
	want := front + "\x00\xca\x01\x01n" + bytes + "\x0b\xcc\x01\x01\x01\xc8\x01" + bytes
	if got, e := Encode(m); string(got) != want || e != api.OK {
		t.Errorf("P11.1: lengths: %x %d", got, e)
	}
}

func TestWrong(t *testing.T) {
	for i, change := range []func(m *module.Module){
		func(m *module.Module) { m.Codes = nil },
		func(m *module.Module) { m.Types[0].Params[0] = 0 },
		func(m *module.Module) { m.HasStart = false },
		func(m *module.Module) { m.Customs = []module.Custom{{Gap: 13}} },
		func(m *module.Module) { m.Customs = []module.Custom{{Gap: 2}, {Gap: 1}} },
		func(m *module.Module) { m.Customs = []module.Custom{{Name: "\xff"}} },
		func(m *module.Module) { m.Codes[0].Body = of(0x0b) },
		func(m *module.Module) {
			m.HasCount, m.Codes[0].Body = false, []instr.Instr{{Op: op.Op{Prefix: 0xfc, Code: 9}}}
		},
	} {
		m := full()
		change(&m)
		if got, e := Encode(m); len(got) != 0 || e != api.ErrValue {
			t.Errorf("P11.1: wrong %d: %x %d", i, got, e)
		}
		for part := range 14 {
			Section(m, part)
		}
	}
}

// TestOthers: modules that are not the same have other bytes.
func TestOthers(t *testing.T) {
	seen := map[string]int{}
	for i, change := range []func(m *module.Module){
		func(m *module.Module) {},
		func(m *module.Module) { m.Types[1].Results = []wtype.Val{wtype.I32} },
		func(m *module.Module) { m.Types = m.Types[1:] },
		func(m *module.Module) { m.HasStart, m.Start = false, 0 },
		func(m *module.Module) { m.Start = 0 },
		func(m *module.Module) { m.HasCount = false },
		func(m *module.Module) { m.Datas = nil },
		func(m *module.Module) { m.Elems[0].Mode = 2 },
		func(m *module.Module) { m.Elems[0].Type = wtype.FuncRef },
		func(m *module.Module) { m.Customs = []module.Custom{{Gap: 1, Name: "ab"}} },
		func(m *module.Module) { m.Customs = []module.Custom{{Gap: 2, Name: "ab"}} },
		func(m *module.Module) { m.Customs = []module.Custom{{Gap: 2, Name: "a", Bytes: "b"}} },
		func(m *module.Module) { m.Codes[0].Locals = []entry.Run{{Count: 1, Type: wtype.I32}} },
		func(m *module.Module) { m.Globals[0].Type.Mut = true },
	} {
		m := full()
		change(&m)
		b, e := Encode(m)
		if before, twice := seen[string(b)]; twice || e != api.OK {
			t.Errorf("P11.2: %d has the bytes of %d (%d)", i, before, e)
		}
		seen[string(b)] = i
	}
}
