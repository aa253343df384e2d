// Package fresh makes modules that share no memory with others: what is kept may be told more than once.
package fresh

import (
	"slices"

	"dobby/entry"
	"dobby/instr"
	"dobby/module"
	"dobby/wtype"
)

// Module is a module like m, that shares nothing with it.
func Module(m module.Module) module.Module {
	m.Types = each(m.Types, func(f wtype.Func) wtype.Func {
		return wtype.Func{Params: slices.Clone(f.Params), Results: slices.Clone(f.Results)}
	})
	m.Imports = slices.Clone(m.Imports)
	m.Funcs = slices.Clone(m.Funcs)
	m.Tables = slices.Clone(m.Tables)
	m.Mems = slices.Clone(m.Mems)
	m.Globals = each(m.Globals, func(x entry.Global) entry.Global {
		x.Init = expression(x.Init)
		return x
	})
	m.Exports = slices.Clone(m.Exports)
	m.Elems = each(m.Elems, func(x entry.Elem) entry.Elem {
		x.Offset, x.Init = expression(x.Offset), each(x.Init, expression)
		return x
	})
	m.Codes = each(m.Codes, func(x entry.Code) entry.Code {
		return entry.Code{Locals: slices.Clone(x.Locals), Body: expression(x.Body)}
	})
	m.Datas = each(m.Datas, func(x entry.Data) entry.Data {
		x.Offset = expression(x.Offset)
		return x
	})
	m.Customs = slices.Clone(m.Customs)
	return m
}

func expression(l []instr.Instr) []instr.Instr {
	return each(l, func(i instr.Instr) instr.Instr {
		i.List, i.Types = slices.Clone(i.List), slices.Clone(i.Types)
		return i
	})
}

// each is a list of what is made of each of l.
func each[T any](l []T, made func(T) T) []T {
	all := slices.Clone(l)
	for k, x := range all {
		all[k] = made(x)
	}
	return all
}
