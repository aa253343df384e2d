package fresh

import (
	"testing"

	"dobby/entry"
	"dobby/instr"
	"dobby/module"
	"dobby/op"
	"dobby/wtype"
)

func full() module.Module {
	expr := func() []instr.Instr {
		return []instr.Instr{{Op: op.Op{Code: 0x0e}, List: []uint32{1, 2}}, {Op: op.Op{Code: 0x1c}, Types: []wtype.Val{wtype.I32}}}
	}
	return module.Module{
		Types:    []wtype.Func{{Params: []wtype.Val{wtype.I32}, Results: []wtype.Val{wtype.I64}}},
		Imports:  []entry.Import{{Module: "m"}},
		Funcs:    []uint32{7},
		Tables:   []wtype.Table{{Elem: wtype.FuncRef}},
		Mems:     []wtype.Limits{{Min: 1}},
		Globals:  []entry.Global{{Type: wtype.Global{Type: wtype.I32}, Init: expr()}},
		Exports:  []entry.Export{{Name: "e"}},
		HasStart: true,
		Start:    3,
		Elems:    []entry.Elem{{Type: wtype.FuncRef, Offset: expr(), Init: [][]instr.Instr{expr(), nil}}},
		HasCount: true,
		Codes:    []entry.Code{{Locals: []entry.Run{{Count: 1, Type: wtype.I32}}, Body: expr()}},
		Datas:    []entry.Data{{Active: true, Offset: expr(), Bytes: "b"}},
		Customs:  []module.Custom{{Name: "c"}},
	}
}

// spoils change what stands in memory of a module.
func spoils() []func(m *module.Module) {
	spoil := func(l []instr.Instr) {
		l[0].List[1], l[1].Types[0] = 9, wtype.F32
		l[0].X, l[1].X = 9, 9
	}
	return []func(m *module.Module){
		func(m *module.Module) { m.Types[0].Params[0] = wtype.F32 },
		func(m *module.Module) { m.Types[0].Results[0] = wtype.F32 },
		func(m *module.Module) { m.Types[0].Params = nil },
		func(m *module.Module) { m.Imports[0].Name = "x" },
		func(m *module.Module) { m.Funcs[0] = 0 },
		func(m *module.Module) { m.Tables[0].Limits.Min = 9 },
		func(m *module.Module) { m.Mems[0].Min = 9 },
		func(m *module.Module) { m.Globals[0].Type.Mut = true },
		func(m *module.Module) { spoil(m.Globals[0].Init) },
		func(m *module.Module) { m.Exports[0].Index = 9 },
		func(m *module.Module) { spoil(m.Elems[0].Offset) },
		func(m *module.Module) { spoil(m.Elems[0].Init[0]) },
		func(m *module.Module) { m.Elems[0].Init[1] = m.Elems[0].Init[0] },
		func(m *module.Module) { m.Codes[0].Locals[0].Count = 9 },
		func(m *module.Module) { spoil(m.Codes[0].Body) },
		func(m *module.Module) { spoil(m.Datas[0].Offset) },
		func(m *module.Module) { m.Datas[0].Bytes = "" },
		func(m *module.Module) { m.Customs[0].Gap = 9 },
	}
}

func TestModule(t *testing.T) {
	for i, spoil := range spoils() {
		m := full()
		other := Module(m)
		if !other.Same(m) {
			t.Fatalf("not the same: %v", other)
		}
		spoil(&m)
		if !other.Same(full()) || m.Same(full()) {
			t.Errorf("memory is shared: %d", i)
		}
	}
	if !Module(module.Module{}).Same(module.Module{}) {
		t.Error("a module without anything")
	}
}
