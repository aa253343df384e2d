package module

import (
	"math"
	"testing"

	"dobby/entry"
	"dobby/instr"
	"dobby/op"
	"dobby/wtype"
)

func of(prefix byte, code uint32) []instr.Instr {
	return []instr.Instr{{Op: op.Op{Prefix: prefix, Code: code}}}
}

// full has of each part what it may have.
func full() Module {
	return Module{
		Types:    []wtype.Func{{Params: []wtype.Val{wtype.I32}}, {}},
		Imports:  []entry.Import{{Module: "m", Name: "n"}},
		Funcs:    []uint32{0, 1},
		Tables:   []wtype.Table{{Elem: wtype.FuncRef}},
		Mems:     []wtype.Limits{{HasMax: true, Min: 1, Max: 2}},
		Globals:  []entry.Global{{Type: wtype.Global{Type: wtype.I64}}},
		Exports:  []entry.Export{{Name: "e", Kind: 3}},
		HasStart: true,
		Start:    1,
		Elems:    []entry.Elem{{Mode: 1, Type: wtype.ExternRef, Init: [][]instr.Instr{of(0, 1)}}, {Type: wtype.FuncRef}},
		HasCount: true,
		Codes:    []entry.Code{{Locals: []entry.Run{{Count: 1, Type: wtype.F32}}}, {}},
		Datas:    []entry.Data{{Bytes: "d"}, {Active: true}},
		Customs:  []Custom{{0, "a", "b"}, {8, "", "\xff"}, {8, "x", ""}, {10, "y", ""}, {12, "z", "z"}},
	}
}

// changes are of the full one, each to another right one, or to a wrong one.
func changes() (right, wrong []func(m *Module)) {
	bad := of(0, 5)
	right = []func(m *Module){
		func(m *Module) { m.Types = m.Types[:1] },
		func(m *Module) { m.Types[0].Params[0] = wtype.I64 },
		func(m *Module) { m.Types[1].Results = []wtype.Val{wtype.I64} },
		func(m *Module) { m.Imports[0].Name = "o" },
		func(m *Module) { m.Imports = nil },
		func(m *Module) { m.Funcs[1] = math.MaxUint32 },
		func(m *Module) { m.Funcs, m.Codes = m.Funcs[:1], m.Codes[:1] },
		func(m *Module) { m.Tables[0].Limits.Min = 1 },
		func(m *Module) { m.Mems[0].Max = 0 },
		func(m *Module) { m.Globals[0].Type.Mut = true },
		func(m *Module) { m.Globals[0].Init = of(0, 1) },
		func(m *Module) { m.Exports[0].Index = 9 },
		func(m *Module) { m.Start = 0 },
		func(m *Module) {
			m.HasStart, m.Start = false, 0
			m.Customs[1].Gap, m.Customs[2].Gap = 7, 7
		},
		func(m *Module) { m.Elems[0].Mode = 2 },
		func(m *Module) { m.Elems[0].Init[0] = of(0, 0) },
		func(m *Module) { m.Elems[1].Offset = of(0, 1) },
		func(m *Module) { m.HasCount, m.Customs[3].Gap = false, 9 },
		func(m *Module) { m.Codes[0].Locals[0].Count = 2 },
		func(m *Module) { m.Codes[1].Body = of(0, 1) },
		func(m *Module) { m.Datas = nil },
		func(m *Module) { m.Datas[0].Bytes = "" },
		func(m *Module) { m.Customs[0].Gap = 7 },
		func(m *Module) { m.Customs[1].Bytes = "" },
		func(m *Module) { m.Customs[1].Name = "€" },
		func(m *Module) { m.Customs = m.Customs[:4] },
		func(m *Module) { m.Customs[1], m.Customs[2] = m.Customs[2], m.Customs[1] },
	}
	wrong = []func(m *Module){
		func(m *Module) { m.Types[0].Params[0] = 0 },
		func(m *Module) { m.Imports[0].Kind = 5 },
		func(m *Module) { m.Funcs = m.Funcs[:1] },
		func(m *Module) { m.Codes = m.Codes[:1] },
		func(m *Module) { m.Tables[0].Elem = wtype.I32 },
		func(m *Module) { m.Mems[0].HasMax = false },
		func(m *Module) { m.Globals[0].Init = bad },
		func(m *Module) { m.Exports[0].Name = "\xff" },
		func(m *Module) { m.HasStart = false },
		func(m *Module) { m.HasStart, m.Start = false, 0 },
		func(m *Module) { m.HasStart, m.Customs = false, nil },
		func(m *Module) { m.Elems[0].Table = 1 },
		func(m *Module) { m.HasCount = false },
		func(m *Module) { m.Codes[0].Locals[0].Count = 0 },
		func(m *Module) { m.Datas[0].Memory = 1 },
		func(m *Module) { m.Customs[0].Gap = -1 },
		func(m *Module) { m.Customs[4].Gap = 13 },
		func(m *Module) { m.Customs[4].Gap = 9 },
		func(m *Module) { m.Customs[2].Name = "\x80" },
		func(m *Module) { m.Customs[0].Gap = 9 },
	}
	return right, wrong
}

func TestRightAndSame(t *testing.T) {
	if m := full(); !m.Right() || !m.Same(full()) || !(Module{}).Right() || !(Module{}).Same(Module{}) || (Module{}).Same(m) {
		t.Error("P10.1: the full one, and the one without anything")
	}
	right, wrong := changes()
	for i, change := range right {
		m := full()
		if change(&m); !m.Right() || m.Same(full()) || full().Same(m) || !m.Same(m) {
			t.Errorf("P10.1: change %d: right %v, same %v", i, m.Right(), m.Same(full()))
		}
	}
	for i, change := range wrong {
		m := full()
		if change(&m); m.Right() || m.Same(full()) {
			t.Errorf("P10.1: wrong change %d: right %v", i, m.Right())
		}
	}
	if (Module{Funcs: []uint32{0}}).Right() || (Module{Start: 1}).Right() || !(Module{HasStart: true}).Right() || !(Module{HasCount: true}).Right() {
		t.Error("P10.1: small ones")
	}
	if (Module{HasStart: true}).Same(Module{}) || (Module{HasCount: true}).Same(Module{}) || !(Module{Types: []wtype.Func{}, Customs: []Custom{}}).Same(Module{}) {
		t.Error("P10.1: Same of small ones")
	}
}

func TestGaps(t *testing.T) {
	for gap := -1; gap <= 13; gap++ {
		m := Module{Customs: []Custom{{Gap: gap}}}
		want := gap >= 0 && gap <= 12 && gap != 8 && gap != 10
		if m.Right() != want {
			t.Errorf("P10.1: a custom behind %d: %v", gap, m.Right())
		}
		m.HasStart, m.HasCount = true, true
		if m.Right() != (gap >= 0 && gap <= 12) {
			t.Errorf("P10.1: a custom behind %d, with all: %v", gap, m.Right())
		}
	}
}

func TestData(t *testing.T) {
	if full().Data() || (Module{}).Data() {
		t.Error("P10.1: Data of none")
	}
	for i, put := range []func(m *Module, l []instr.Instr){
		func(m *Module, l []instr.Instr) { m.Globals[0].Init = l },
		func(m *Module, l []instr.Instr) { m.Elems[0].Init[0] = l },
		func(m *Module, l []instr.Instr) { m.Elems[1].Offset = l },
		func(m *Module, l []instr.Instr) { m.Codes[1].Body = l },
		func(m *Module, l []instr.Instr) { m.Datas[1].Offset = l },
	} {
		for code, want := range map[uint32]bool{8: true, 9: true, 10: false} {
			m := full()
			put(&m, of(0xfc, code))
			if m.Data() != want || !m.Right() {
				t.Errorf("P10.1: Data %d of %x: %v", i, code, m.Data())
			}
			m.HasCount, m.Customs = false, nil
			if m.Right() == want {
				t.Errorf("P10.1: without a count, %d of %x: right %v", i, code, m.Right())
			}
		}
	}
}

func TestMany(t *testing.T) {
	want := map[int]int{1: 2, 2: 1, 3: 2, 4: 1, 5: 1, 6: 1, 7: 1, 8: 1, 9: 2, 10: 1, 11: 2, 12: 2}
	for _, part := range []int{math.MinInt, -1, 0, 1, 2, 3, 4, 5, 6, 7, 8, 9, 10, 11, 12, 13, math.MaxInt} {
		if got := full().Many(part); got != want[part] {
			t.Errorf("P10.2: Many(%d) = %d", part, got)
		}
		if got := (Module{Customs: []Custom{{}}}).Many(part); got != 0 {
			t.Errorf("P10.2: Many(%d) of nothing = %d", part, got)
		}
	}
	if (Module{Datas: make([]entry.Data, 7)}).Many(10) != 0 || (Module{HasStart: true}).Many(8) != 1 {
		t.Error("P10.2: Many of Start and the count")
	}
}

func TestIds(t *testing.T) {
	want := []byte{0, 1, 2, 3, 4, 5, 6, 7, 8, 9, 12, 10, 11}
	parts := map[byte]int{}
	for part, id := range want {
		if Id(part) != id {
			t.Errorf("P10.2: Id(%d) = %d", part, Id(part))
		}
		parts[id] = part
	}
	for id := range 256 {
		if got := Part(byte(id)); got != parts[byte(id)] {
			t.Errorf("P10.2: Part(%d) = %d", id, got)
		}
	}
	for _, part := range []int{-1, 13, 256, 257, math.MaxInt, math.MinInt} {
		if Id(part) != 0 {
			t.Errorf("P10.2: Id(%d) = %d", part, Id(part))
		}
	}
}
