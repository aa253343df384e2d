package entry

import (
	"dobby/cursor"
	"dobby/expr"
	"dobby/instr"
	"dobby/op"
	"dobby/span"
	"dobby/wtype"
)

// ReadImport is the import that comes next.
func ReadImport(c *cursor.Cursor, behind span.Span) Import {
	parts := [kinds]span.Span{kindFunc: number(), kindTable: {Min: 3, Max: 12}, kindMemory: {Min: 2, Max: 11}, kindGlobal: {Min: 2, Max: 2}}
	last := one().And(span.Span{Min: 1, Max: 12}).And(behind)
	x := Import{Module: c.Name(atLeast(1).And(last))}
	x.Name = c.Name(last)
	x.Kind = int(c.Byte(func(k byte, r int) bool { return k < kinds && parts[k].And(behind).Has(r) }))
	switch x.Kind {
	case kindFunc:
		x.Func = c.Uint(wtype.Index(behind))
	case kindTable:
		x.Table = wtype.ReadTable(c, behind)
	case kindMemory:
		x.Memory = wtype.ReadLimits(c, behind)
	case kindGlobal:
		x.Global = wtype.ReadGlobal(c)
	}
	return x
}

// ReadExport is the export that comes next.
func ReadExport(c *cursor.Cursor, behind span.Span) Export {
	index := number().And(behind)
	x := Export{Name: c.Name(one().And(index))}
	x.Kind = int(c.Byte(func(k byte, r int) bool { return k < kinds && index.Has(r) }))
	x.Index = c.Uint(wtype.Index(behind))
	return x
}

// ReadGlobal is the global that comes next. Its type is read here, as the layer of types does not look at the rest behind it.
func ReadGlobal(c *cursor.Cursor, behind span.Span) Global {
	init := atLeast(1).And(behind)
	x := Global{}
	x.Type.Type = wtype.Val(c.Byte(func(v byte, r int) bool { return wtype.Val(v).Right() && one().And(init).Has(r) }))
	x.Type.Mut = c.Byte(func(m byte, _ int) bool { return m < 2 }) == 1
	x.Init = expr.Read(c, behind, true)
	return x
}

// ReadElem is the element that comes next.
func ReadElem(c *cursor.Cursor, behind span.Span) Elem {
	f := forms[c.Uint(func(r int) []span.Range {
		var l []span.Range
		for n, o := range forms {
			if o.span().And(behind).Has(r) {
				l = append(l, span.Range{Low: uint64(n), High: uint64(n)})
			}
		}
		return l
	})]
	x := Elem{Mode: f.mode, Type: wtype.FuncRef}
	offset := f.afterOffset().And(behind)
	if f.table {
		x.Table = c.Uint(wtype.Index(atLeast(1).And(offset)))
	}
	if f.mode == active {
		x.Offset = expr.Read(c, offset, true)
	}
	switch {
	case f.kind && f.exprs:
		x.Type = wtype.ReadRef(c)
	case f.kind:
		c.Byte(func(k byte, _ int) bool { return k == 0 })
	}
	if f.exprs {
		x.Init = readList(c, atLeast(1), behind, func(after span.Span) []instr.Instr { return expr.Read(c, after, true) })
	} else {
		x.Init = readList(c, number(), behind, func(after span.Span) []instr.Instr {
			return []instr.Instr{{Op: op.Op{Code: opRefFunc}, X: c.Uint(wtype.Index(after))}}
		})
	}
	return x
}

// ReadData is the data that comes next.
func ReadData(c *cursor.Cursor, behind span.Span, data bool) Data {
	bytes := atLeast(1).And(behind)
	offset := atLeast(1).And(bytes)
	parts := [...]span.Span{dataAtFirst: offset, dataPassive: bytes, dataActive: number().And(offset)}
	form := c.Uint(func(r int) []span.Range {
		var l []span.Range
		for n, s := range parts {
			if s.Has(r) {
				l = append(l, span.Range{Low: uint64(n), High: uint64(n)})
			}
		}
		return l
	})
	x := Data{Active: form != dataPassive}
	if form == dataActive {
		x.Memory = c.Uint(wtype.Index(offset))
	}
	if x.Active {
		x.Offset = expr.Read(c, bytes, data)
	}
	x.Bytes = c.Raw(int(c.Uint(wtype.List(one(), behind))))
	return x
}

// ReadCode is the code that comes next.
func ReadCode(c *cursor.Cursor, behind span.Span, data bool) Code {
	size := c.Uint(func(r int) []span.Range {
		return []span.Range{span.Sizes(atLeast(2), behind, r)}
	})
	x := Code{}
	c.Within(int(size), func() {
		x.Locals = readRuns(c, atLeast(1))
		x.Body = expr.Read(c, span.Span{}, data)
	})
	return x
}

// readRuns is a list of runs, as they are told.
func readRuns(c *cursor.Cursor, behind span.Span) []Run {
	left := uint64(allLocals)
	return joined(readList(c, span.Span{Min: 2, Max: 6}, behind, func(after span.Span) Run {
		n := c.Uint(func(r int) []span.Range {
			if !one().And(after).Has(r) {
				return nil
			}
			return []span.Range{{Low: 0, High: left}}
		})
		left -= uint64(n)
		return Run{n, wtype.ReadVal(c)}
	}))
}

// joined is runs without those of no locals, those of one type that come together then being one.
func joined(l []Run) []Run {
	var all []Run
	for _, r := range l {
		switch last := len(all) - 1; {
		case r.Count == 0:
		case last >= 0 && all[last].Type == r.Type:
			all[last].Count += r.Count
		default:
			all = append(all, r)
		}
	}
	return all
}

// readList is a list of items, each read with what may stand behind it.
func readList[T any](c *cursor.Cursor, item, behind span.Span, read func(after span.Span) T) []T {
	var l []T
	n := int(c.Uint(wtype.List(item, behind)))
	for k := range n {
		l = append(l, read(item.Times(n-1-k).And(behind)))
	}
	return l
}

// span is how many bytes an element of the form has behind its number.
func (f form) span() span.Span {
	s := f.afterOffset()
	if f.table {
		s = s.And(number())
	}
	if f.mode == active {
		s = s.And(atLeast(1))
	}
	return s
}

// afterOffset is how many it has behind its Offset.
func (f form) afterOffset() span.Span {
	if f.kind {
		return one().And(atLeast(1))
	}
	return atLeast(1)
}

// one is how many bytes a byte has, number a number, and atLeast what has no bound.
func one() span.Span          { return span.Span{Min: 1, Max: 1} }
func number() span.Span       { return span.Span{Min: 1, Max: 5} }
func atLeast(n int) span.Span { return span.Span{Min: n, Max: span.Endless} }
