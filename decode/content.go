package decode

import (
	"bodkin/api"
)

// funcTypeMark stands ahead of a function's type.
const funcTypeMark = 0x60

// kinds is how many kinds of imports and exports there are.
const kinds = api.Global + 1

// isRefType tells whether a byte is a type of references.
func isRefType(n int) bool { return n == api.FuncRef || n == api.ExternRef }

// isValueType tells whether a byte is a type of values.
func isValueType(n int) bool {
	switch n {
	case api.I32, api.I64, api.F32, api.F64, api.V128:
		return true
	}
	return isRefType(n)
}

// valueType reads a type of values.
func (r *reader) valueType() int {
	t := r.number()
	if !isValueType(t) {
		r.refuse()
	}
	return t
}

// refType reads a type of references.
func (r *reader) refType() int {
	t := r.number()
	if !isRefType(t) {
		r.refuse()
	}
	return t
}

// funcType reads a function's type.
func (r *reader) funcType() api.FuncType {
	if r.number() != funcTypeMark {
		r.refuse()
	}
	return api.FuncType{Params: list(r, r.valueType), Results: list(r, r.valueType)}
}

// limits reads limits.
func (r *reader) limits() api.Limits {
	l := api.Limits{Has: r.flag(), Min: r.index()}
	if l.Has {
		l.Max = r.index()
	}
	return l
}

// tableType reads a table's type.
func (r *reader) tableType() api.TableType {
	return api.TableType{Ref: r.refType(), L: r.limits()}
}

// globalType reads a global's type.
func (r *reader) globalType() api.GlobalType {
	return api.GlobalType{Type: r.valueType(), Mut: r.flag()}
}

// imported reads an import.
func (r *reader) imported() api.Import {
	i := api.Import{Module: r.Name(), Name: r.Name(), Kind: r.below(kinds)}
	switch i.Kind {
	case api.Func:
		i.Type = r.index()
	case api.Table:
		i.Table = r.tableType()
	case api.Mem:
		i.Mem = r.limits()
	case api.Global:
		i.Global = r.globalType()
	}
	return i
}

// exported reads an export.
func (r *reader) exported() api.Export {
	return api.Export{Name: r.Name(), Kind: r.below(kinds), Index: r.index()}
}

// global reads a global.
func (r *reader) global() api.Var {
	return api.Var{Type: r.globalType(), Init: r.code()}
}

// run is locals of one type, one behind the other.
type run struct {
	count int
	of    int
}

// localRun reads a run of locals.
func (r *reader) localRun() run { return run{count: r.index(), of: r.valueType()} }

// locals reads a function's locals.
func (r *reader) locals() []int {
	var out []int
	for _, x := range list(r, r.localRun) {
		if x.count > api.MaxLocals-len(out) {
			r.refuse()
			return nil
		}
		for range x.count {
			out = append(out, x.of)
		}
	}
	return out
}

// function reads a function without its type, which stands in a section of its own.
func (r *reader) function() api.Code {
	var c api.Code
	r.sized(func(inner *reader) {
		c.Locals = inner.locals()
		c.Body = inner.code()
	})
	return c
}
