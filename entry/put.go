package entry

import (
	"dobby/expr"
	"dobby/leb"
)

// Put puts its bytes.
func (x Import) Put(b []byte) []byte {
	b = append(PutText(PutText(b, x.Module), x.Name), byte(x.Kind))
	switch x.Kind {
	case kindFunc:
		return leb.PutU(b, uint64(x.Func))
	case kindTable:
		return x.Table.Put(b)
	case kindMemory:
		return x.Memory.Put(b)
	}
	return x.Global.Put(b)
}

// Put puts its bytes.
func (x Export) Put(b []byte) []byte {
	return leb.PutU(append(PutText(b, x.Name), byte(x.Kind)), uint64(x.Index))
}

// Put puts its bytes.
func (x Global) Put(b []byte) []byte { return expr.Put(x.Type.Put(b), x.Init) }

// Put puts its bytes.
func (x Elem) Put(b []byte) []byte {
	f := x.form()
	for n, o := range forms {
		if o == f {
			b = leb.PutU(b, uint64(n))
		}
	}
	if f.table {
		b = leb.PutU(b, uint64(x.Table))
	}
	if f.mode == active {
		b = expr.Put(b, x.Offset)
	}
	switch {
	case f.kind && f.exprs:
		b = append(b, byte(x.Type))
	case f.kind:
		b = append(b, 0)
	}
	b = leb.PutU(b, uint64(len(x.Init)))
	for _, l := range x.Init {
		if f.exprs {
			b = expr.Put(b, l)
		} else {
			b = leb.PutU(b, uint64(l[0].X))
		}
	}
	return b
}

// Put puts its bytes.
func (x Data) Put(b []byte) []byte {
	switch {
	case !x.Active:
		b = leb.PutU(b, dataPassive)
	case x.Memory == 0:
		b = expr.Put(leb.PutU(b, dataAtFirst), x.Offset)
	default:
		b = expr.Put(leb.PutU(leb.PutU(b, dataActive), uint64(x.Memory)), x.Offset)
	}
	return PutText(b, x.Bytes)
}

// Put puts its bytes.
func (x Code) Put(b []byte) []byte {
	all := leb.PutU(nil, uint64(len(x.Locals)))
	for _, r := range x.Locals {
		all = append(leb.PutU(all, uint64(r.Count)), byte(r.Type))
	}
	all = expr.Put(all, x.Body)
	return append(leb.PutU(b, uint64(len(all))), all...)
}

// PutText puts how many bytes s has, and these.
func PutText(b []byte, s string) []byte {
	return append(leb.PutU(b, uint64(len(s))), s...)
}
