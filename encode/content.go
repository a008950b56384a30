package encode

import (
	"bodkin/api"
)

// funcTypeMark stands ahead of a function's type.
const funcTypeMark = 0x60

// types writes a list of types.
func (w *writer) types(l []int) {
	list(w, l, func(t int) { w.bytes(t) })
}

// indices writes a list of indices.
func (w *writer) indices(l []int) {
	list(w, l, func(n int) { w.u(n) })
}

// funcType writes a function's type.
func (w *writer) funcType(f api.FuncType) {
	w.bytes(funcTypeMark)
	w.types(f.Params)
	w.types(f.Results)
}

// limits writes limits.
func (w *writer) limits(l api.Limits) {
	w.flag(l.Has)
	w.u(l.Min)
	if l.Has {
		w.u(l.Max)
	}
}

// flag writes 1 or 0.
func (w *writer) flag(is bool) {
	if is {
		w.bytes(1)
	} else {
		w.bytes(0)
	}
}

// tableType writes a table's type.
func (w *writer) tableType(t api.TableType) {
	w.bytes(t.Ref)
	w.limits(t.L)
}

// globalType writes a global's type.
func (w *writer) globalType(g api.GlobalType) {
	w.bytes(g.Type)
	w.flag(g.Mut)
}

// imported writes an import.
func (w *writer) imported(i api.Import) {
	w.name(i.Module)
	w.name(i.Name)
	w.bytes(i.Kind)
	switch i.Kind {
	case api.Func:
		w.u(i.Type)
	case api.Table:
		w.tableType(i.Table)
	case api.Mem:
		w.limits(i.Mem)
	case api.Global:
		w.globalType(i.Global)
	}
}

// exported writes an export.
func (w *writer) exported(x api.Export) {
	w.name(x.Name)
	w.bytes(x.Kind)
	w.u(x.Index)
}

// global writes a global.
func (w *writer) global(v api.Var) {
	w.globalType(v.Type)
	w.code(v.Init)
}

// run is locals of one type, one behind the other.
type run struct {
	count int
	of    int
}

// runs are locals in as few runs as there can be.
func runs(locals []int) []run {
	var out []run
	for i, t := range locals {
		if i == 0 || t != locals[i-1] {
			out = append(out, run{of: t})
		}
		out[len(out)-1].count++
	}
	return out
}

// function writes a function without its type, which stands in a section of its own.
func (w *writer) function(c api.Code) {
	w.sized(func() {
		list(w, runs(c.Locals), func(r run) {
			w.u(r.count)
			w.bytes(r.of)
		})
		w.code(c.Body)
	})
}
