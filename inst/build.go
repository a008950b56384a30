package inst

import (
	"slices"

	"bodkin/api"
	"bodkin/store"
)

// The numbers of the instructions that occur where no function is run; those of the other constants follow i32.const.
const (
	opGlobalGet = 0x23
	opI32Const  = 0x41
	opRefNull   = 0xd0
	opRefFunc   = 0xd2
	opV128Const = 0xfd00 + 12
)

// constTypes are the types of the constants, in the order of their instructions.
var constTypes = [...]int{api.I32, api.I64, api.F32, api.F64}

// build puts the own objects of a module, which is linked, into a store, and then the instance: its number.
func build(s *store.Store, m api.Module, given []Extern) int {
	number := len(s.Insts)
	inst := &store.Inst{Module: m}
	inst.Funcs = objects(&s.Funcs, imported(given, api.Func), m.Funcs, func(i int, c api.Code) store.Func {
		return store.Func{Type: m.Types[c.Type], Inst: number, Code: i}
	})
	inst.Tables = objects(&s.Tables, imported(given, api.Table), m.Tables, newTable)
	inst.Mems = objects(&s.Mems, imported(given, api.Mem), m.Mems, newMem)
	// The values of the own globals may be those of imported ones.
	inst.Globals = imported(given, api.Global)
	inst.Globals = objects(&s.Globals, inst.Globals, m.Globals, func(_ int, v api.Var) *store.Global {
		return &store.Global{Type: v.Type, V: value(s, inst, v.Init)}
	})
	inst.Elems = objects(&s.Elems, nil, m.Elems, func(_ int, e api.Elem) []api.Value { return references(s, inst, e) })
	inst.Datas = objects(&s.Datas, nil, m.Datas, func(_ int, d api.Data) []byte { return slices.Clone(d.Bytes) })
	for _, e := range m.Exports {
		inst.Exports = append(inst.Exports, exported(inst, e))
	}
	s.Insts = append(s.Insts, inst)
	return number
}

// objects puts what there is for each of a module's own objects of a kind behind the others in a list of the store. It gives the addresses of those that are imported, and then of these.
func objects[S, T any](list *[]T, imported []int, own []S, create func(int, S) T) []int {
	addresses := imported
	for i, x := range own {
		addresses = append(addresses, len(*list))
		*list = append(*list, create(i, x))
	}
	return addresses
}

// imported are the addresses of what is given of a kind.
func imported(given []Extern, kind int) []int {
	var out []int
	for _, x := range given {
		if x.Kind == kind {
			out = append(out, x.Addr)
		}
	}
	return out
}

// newTable is a table as it begins. There is room for it, so it grows to that.
func newTable(_ int, typ api.TableType) *store.Table {
	t := &store.Table{Type: typ}
	t.Grow(uint64(typ.L.Min), store.Zero(typ.Ref))
	return t
}

// newMem is a memory as it begins. There is room for it, so it grows to that.
func newMem(_ int, l api.Limits) *store.Mem {
	m := &store.Mem{L: l}
	m.Grow(uint64(l.Min), l.Min)
	return m
}

// references are what a segment of them begins with.
func references(s *store.Store, inst *store.Inst, e api.Elem) []api.Value {
	if e.Mode == api.Declared {
		return nil
	}
	var out []api.Value
	for _, init := range e.Init {
		out = append(out, value(s, inst, init))
	}
	return out
}

// value is what constant instructions leave. As each of them leaves a value and takes none, there is only one.
func value(s *store.Store, inst *store.Inst, code []api.Instr) api.Value {
	in := code[0]
	switch in.Op {
	case opGlobalGet:
		return s.Globals[inst.Globals[in.A]].V
	case opRefNull:
		return store.Zero(in.A)
	case opRefFunc:
		return api.Value{Type: api.FuncRef, Lo: uint64(inst.Funcs[in.A])}
	case opV128Const:
		return api.Value{Type: api.V128, Lo: in.N, Hi: in.H}
	}
	return api.Value{Type: constTypes[in.Op-opI32Const], Lo: in.N}
}

// exported is what an instance gives for an export of its module.
func exported(inst *store.Inst, e api.Export) store.Export {
	out := store.Export{Name: e.Name, Kind: e.Kind}
	switch e.Kind {
	case api.Func:
		out.Addr = inst.Funcs[e.Index]
	case api.Table:
		out.Addr = inst.Tables[e.Index]
	case api.Mem:
		out.Addr = inst.Mems[e.Index]
	case api.Global:
		out.Addr = inst.Globals[e.Index]
	}
	return out
}
