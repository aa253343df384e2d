package decode

import (
	"strings"
	"unicode/utf8"

	"dobby/entry"
	"dobby/instr"
	"dobby/module"
	"dobby/op"
	"dobby/wtype"
)

// naive reads whole bytes by the document's tables, and tells only whether they are a module's. It looks at no place, and at nothing ahead.
type naive struct {
	b  string
	at int
}

type wrong struct{}

func must(ok bool) {
	if !ok {
		panic(wrong{})
	}
}

func (p *naive) byte() byte {
	must(p.at < len(p.b))
	p.at++
	return p.b[p.at-1]
}

func (p *naive) raw(n int) string {
	must(n <= len(p.b)-p.at)
	p.at += n
	return p.b[p.at-n : p.at]
}

func (p *naive) u32() uint32 {
	v := uint64(0)
	for k := 0; ; k++ {
		x := p.byte()
		must(k < 4 || x < 16)
		v |= uint64(x&127) << (7 * k)
		if x < 128 {
			return uint32(v)
		}
	}
}

// signed reads by multiplying, as the document defines it.
func (p *naive) signed(bits int) int64 {
	most, v, weight := (bits+6)/7, int64(0), int64(1)
	for k := 1; ; k++ {
		x := p.byte()
		digit := int64(x & 127)
		if x < 128 && digit >= 64 {
			digit -= 128
		}
		if k == most {
			left := bits - 7*(most-1)
			must(x < 128 && digit < 1<<(left-1) && digit >= -1<<(left-1))
		}
		v += digit * weight
		if weight *= 128; x < 128 {
			return v
		}
	}
}

func (p *naive) text() string {
	s := p.raw(int(p.u32()))
	must(utf8.ValidString(s))
	return s
}

func (p *naive) val() wtype.Val {
	x := p.byte()
	must(strings.IndexByte("\x7f\x7e\x7d\x7c\x7b\x70\x6f", x) >= 0)
	return wtype.Val(x)
}

func (p *naive) ref() wtype.Val {
	x := p.byte()
	must(x == 0x70 || x == 0x6f)
	return wtype.Val(x)
}

func (p *naive) flag() bool {
	x := p.byte()
	must(x < 2)
	return x == 1
}

func many[T any](p *naive, read func() T) []T {
	var l []T
	for range p.u32() {
		l = append(l, read())
	}
	return l
}

func (p *naive) limits() wtype.Limits {
	l := wtype.Limits{HasMax: p.flag(), Min: p.u32()}
	if l.HasMax {
		l.Max = p.u32()
	}
	return l
}

func (p *naive) table() wtype.Table { return wtype.Table{Elem: p.ref(), Limits: p.limits()} }

func (p *naive) global() wtype.Global { return wtype.Global{Type: p.val(), Mut: p.flag()} }

func (p *naive) block() instr.BlockType {
	switch x := p.b[p.at]; {
	case x == 0x40:
		p.at++
		return instr.BlockType{}
	case x >= 64 && x < 128:
		return instr.BlockType{Kind: 1, Type: p.val()}
	}
	v := p.signed(33)
	must(v >= 0)
	return instr.BlockType{Kind: 2, Index: uint32(v)}
}

func (p *naive) instr(data bool) instr.Instr {
	i := instr.Instr{Op: op.Op{Code: uint32(p.byte())}}
	if i.Op.Code == 0xfc || i.Op.Code == 0xfd {
		i.Op = op.Op{Prefix: byte(i.Op.Code), Code: p.u32()}
	}
	info, ok := op.Find(i.Op)
	must(ok && (data || i.Op != op.Op{Prefix: 0xfc, Code: 8} && i.Op != op.Op{Prefix: 0xfc, Code: 9}))
	lane := func() byte {
		x := p.byte()
		must(int(x) < info.Lanes)
		return x
	}
	switch info.Shape {
	case op.Block:
		must(p.at < len(p.b))
		i.Block = p.block()
	case op.Index:
		i.X = p.u32()
	case op.Two, op.Memory:
		i.X, i.Y = p.u32(), p.u32()
	case op.Table:
		i.List, i.X = many(p, p.u32), p.u32()
	case op.Zero:
		must(p.byte() == 0)
	case op.Zeros:
		must(p.raw(2) == "\x00\x00")
	case op.Init:
		i.X = p.u32()
		must(p.byte() == 0)
	case op.Int32:
		i.N = p.signed(32)
	case op.Int64:
		i.N = p.signed(64)
	case op.Raw4:
		i.Raw = p.raw(4)
	case op.Raw8:
		i.Raw = p.raw(8)
	case op.Raw16:
		i.Raw = p.raw(16)
	case op.Shuffle:
		i.Raw = p.raw(16)
		for k := range 16 {
			must(i.Raw[k] < 32)
		}
	case op.Lane:
		i.Lane = lane()
	case op.MemoryLane:
		i.X, i.Y, i.Lane = p.u32(), p.u32(), lane()
	case op.RefType:
		i.Types = []wtype.Val{p.ref()}
	case op.Types:
		i.Types = many(p, p.val)
	}
	return i
}

func (p *naive) expr(data bool) []instr.Instr {
	var l []instr.Instr
	var open []string
	for {
		i := p.instr(data)
		code := i.Op.Code
		switch {
		case i.Op.Prefix != 0:
		case code == 2 || code == 3:
			open = append(open, "block")
		case code == 4:
			open = append(open, "if")
		case code == 5:
			must(len(open) > 0 && open[len(open)-1] == "if")
			open[len(open)-1] = "else"
		case code == 0x0b && len(open) == 0:
			return l
		case code == 0x0b:
			open = open[:len(open)-1]
			if l[len(l)-1].Op == (op.Op{Code: 5}) {
				l = l[:len(l)-1]
			}
		}
		l = append(l, i)
	}
}

func (p *naive) imports() entry.Import {
	x := entry.Import{Module: p.text(), Name: p.text(), Kind: int(p.byte())}
	switch x.Kind {
	case 0:
		x.Func = p.u32()
	case 1:
		x.Table = p.table()
	case 2:
		x.Memory = p.limits()
	case 3:
		x.Global = p.global()
	default:
		must(false)
	}
	return x
}

func (p *naive) export() entry.Export {
	x := entry.Export{Name: p.text(), Kind: int(p.byte()), Index: p.u32()}
	must(x.Kind < 4)
	return x
}

func (p *naive) elem() entry.Elem {
	form := p.u32()
	must(form < 8)
	x := entry.Elem{Type: wtype.FuncRef}
	switch {
	case form%4 == 1:
		x.Mode = 1
	case form%4 == 3:
		x.Mode = 2
	}
	if form%4 == 2 {
		x.Table = p.u32()
	}
	if form%2 == 0 {
		x.Offset = p.expr(true)
	}
	if form < 4 {
		if form > 0 {
			must(p.byte() == 0)
		}
		x.Init = many(p, func() []instr.Instr { return []instr.Instr{{Op: op.Op{Code: 0xd2}, X: p.u32()}} })
		return x
	}
	if form > 4 {
		x.Type = p.ref()
	}
	x.Init = many(p, func() []instr.Instr { return p.expr(true) })
	return x
}

func (p *naive) data(count bool) entry.Data {
	x := entry.Data{}
	form := p.u32()
	must(form < 3)
	if x.Active = form != 1; form == 2 {
		x.Memory = p.u32()
	}
	if x.Active {
		x.Offset = p.expr(count)
	}
	x.Bytes = p.raw(int(p.u32()))
	return x
}

func (p *naive) code(count bool) entry.Code {
	inner := naive{b: p.raw(int(p.u32()))}
	x := entry.Code{}
	sum := uint64(0)
	for range inner.u32() {
		r := entry.Run{Count: inner.u32(), Type: inner.val()}
		sum += uint64(r.Count)
		must(sum < 1<<32)
		if r.Count == 0 {
			continue
		}
		if k := len(x.Locals); k > 0 && x.Locals[k-1].Type == r.Type {
			x.Locals[k-1].Count += r.Count
		} else {
			x.Locals = append(x.Locals, r)
		}
	}
	x.Body = inner.expr(count)
	must(inner.at == len(inner.b))
	return x
}

// naively is the module whose bytes these are, if they are one's.
func naively(b string) (m module.Module, ok bool) {
	defer func() {
		if x := recover(); x != nil {
			if _, mine := x.(wrong); !mine {
				panic(x)
			}
			m, ok = module.Module{}, false
		}
	}()
	p := &naive{b: b}
	must(p.raw(8) == "\x00asm\x01\x00\x00\x00")
	order := []byte{1, 2, 3, 4, 5, 6, 7, 8, 9, 12, 10, 11}
	last, count := 0, uint32(0)
	for p.at < len(p.b) {
		id := p.byte()
		s := &naive{b: p.raw(int(p.u32()))}
		if id == 0 {
			x := module.Custom{Gap: last, Name: s.text()}
			x.Bytes = s.raw(len(s.b) - s.at)
			m.Customs = append(m.Customs, x)
			continue
		}
		part := strings.IndexByte(string(order), id) + 1
		must(part > last)
		last = part
		switch id {
		case 1:
			m.Types = many(s, func() wtype.Func {
				must(s.byte() == 0x60)
				return wtype.Func{Params: many(s, s.val), Results: many(s, s.val)}
			})
		case 2:
			m.Imports = many(s, s.imports)
		case 3:
			m.Funcs = many(s, s.u32)
		case 4:
			m.Tables = many(s, s.table)
		case 5:
			m.Mems = many(s, s.limits)
		case 6:
			m.Globals = many(s, func() entry.Global { return entry.Global{Type: s.global(), Init: s.expr(true)} })
		case 7:
			m.Exports = many(s, s.export)
		case 8:
			m.HasStart, m.Start = true, s.u32()
		case 9:
			m.Elems = many(s, s.elem)
		case 12:
			m.HasCount, count = true, s.u32()
		case 10:
			m.Codes = many(s, func() entry.Code { return s.code(m.HasCount) })
		case 11:
			m.Datas = many(s, func() entry.Data { return s.data(m.HasCount) })
		}
		must(s.at == len(s.b))
	}
	must(len(m.Codes) == len(m.Funcs) && (!m.HasCount || int(count) == len(m.Datas)) && (m.HasCount || !m.Data()))
	return m, true
}
