package inst_test

import (
	"slices"
	"strings"

	"bodkin/api"
	"bodkin/inst"
	"bodkin/run"
	"bodkin/shape"
	"bodkin/store"
	"bodkin/valid"
)

// model works out Instantiate in a store of its own, from indices and where the lists of the store have ended before.
type model struct {
	*call
	first [4]int // where the module's own objects of each kind begin in the store
}

// typeText tells a function's type.
func typeText(f api.FuncType) string {
	text := ""
	for _, typ := range f.Params {
		text += string(rune(typ))
	}
	text += ">"
	for _, typ := range f.Results {
		text += string(rune(typ))
	}
	return text
}

// fits tells whether something is what an import asks for.
func (x *model) fits(given inst.Extern, i api.Import) bool {
	s, addr := x.s, given.Addr
	if given.Kind != i.Kind || addr < 0 || i.Kind > 3 || addr >= x.counts()[i.Kind] {
		return false
	}
	switch i.Kind {
	case api.Func:
		return strings.Compare(typeText(s.Funcs[addr].Type), typeText(x.m.Types[i.Type])) == 0
	case api.Table:
		t := s.Tables[addr]
		return t.Type.Ref == i.Table.Ref && satisfied(len(t.L), t.Type.L, i.Table.L)
	case api.Mem:
		return satisfied(len(s.Mems[addr].B)>>16, s.Mems[addr].L, i.Mem)
	}
	g := s.Globals[addr].Type
	return g.Type == i.Global.Type && g.Mut == i.Global.Mut
}

// counts are how many objects of each kind there are.
func (x *model) counts() [4]int {
	return [4]int{len(x.s.Funcs), len(x.s.Tables), len(x.s.Mems), len(x.s.Globals)}
}

// refused is why nothing is changed.
func (x *model) refused() api.Errno {
	if e := valid.Check(x.m); e != api.OK {
		return e
	}
	if len(x.given) != len(x.m.Imports) {
		return api.ErrLink
	}
	for i, given := range x.given {
		if !x.fits(given, x.m.Imports[i]) {
			return api.ErrLink
		}
	}
	for _, l := range x.m.Mems {
		if l.Min > x.l.Pages {
			return api.ErrRoom
		}
	}
	return api.OK
}

// address is what an index of the module stands for.
func (x *model) address(kind, index int) int {
	for _, given := range x.given {
		if given.Kind != kind {
			continue
		}
		if index == 0 {
			return given.Addr
		}
		index--
	}
	return x.first[kind] + index
}

// constant is the value of constant instructions.
func (x *model) constant(l []api.Instr) api.Value {
	in := l[0]
	switch in.Op {
	case 0x23:
		return x.s.Globals[x.address(api.Global, in.A)].V
	case 0xd0:
		return api.Value{Type: in.A, Null: true}
	case 0xd2:
		return api.Value{Type: api.FuncRef, Lo: uint64(x.address(api.Func, in.A))}
	}
	types := map[int]int{0x41: api.I32, 0x42: api.I64, 0x43: api.F32, 0x44: api.F64, 0xfd0c: api.V128}
	return api.Value{Type: types[in.Op], Lo: in.N, Hi: in.H}
}

// do works out the call.
func (x *model) do() outcome {
	if e := x.refused(); e != api.OK {
		return outcome{e: e}
	}
	x.first = x.counts()
	number, elems, datas := len(x.s.Insts), len(x.s.Elems), len(x.s.Datas)
	x.create(number)
	x.s.Insts = append(x.s.Insts, x.instance(elems, datas))
	if e := x.active(elems, datas); e != api.OK {
		return outcome{e: e}
	}
	if x.m.Start == 0 {
		return outcome{number: number}
	}
	_, steps, e := run.Invoke(x.s, x.address(api.Func, x.m.Start-1), nil, x.l)
	if e != api.OK {
		number = 0
	}
	return outcome{number, steps, e}
}

// create makes the module's own objects.
func (x *model) create(number int) {
	for i, c := range x.m.Funcs {
		x.s.Funcs = append(x.s.Funcs, store.Func{Type: clonedType(x.m.Types[c.Type]), Inst: number, Code: i})
	}
	for _, t := range x.m.Tables {
		null := api.Value{Type: t.Ref, Null: true}
		x.s.Tables = append(x.s.Tables, &store.Table{Type: t, L: slices.Repeat([]api.Value{null}, t.L.Min)})
	}
	for _, l := range x.m.Mems {
		x.s.Mems = append(x.s.Mems, &store.Mem{L: l, B: make([]byte, l.Min<<16)})
	}
	for _, v := range x.m.Globals {
		x.s.Globals = append(x.s.Globals, &store.Global{Type: v.Type, V: x.constant(v.Init)})
	}
	for _, e := range x.m.Elems {
		var l []api.Value
		for _, init := range e.Init {
			if e.Mode != api.Declared {
				l = append(l, x.constant(init))
			}
		}
		x.s.Elems = append(x.s.Elems, l)
	}
	for _, d := range x.m.Datas {
		x.s.Datas = append(x.s.Datas, slices.Clone(d.Bytes))
	}
}

// instance is the instance as it must be.
func (x *model) instance(elems, datas int) *store.Inst {
	out := &store.Inst{Module: shape.Copy(x.m)}
	own := [4]int{len(x.m.Funcs), len(x.m.Tables), len(x.m.Mems), len(x.m.Globals)}
	for kind, l := range []*[]int{&out.Funcs, &out.Tables, &out.Mems, &out.Globals} {
		for i := range len(ofKind(x.m, kind)) + own[kind] {
			*l = append(*l, x.address(kind, i))
		}
	}
	for i := range x.m.Elems {
		out.Elems = append(out.Elems, elems+i)
	}
	for i := range x.m.Datas {
		out.Datas = append(out.Datas, datas+i)
	}
	for _, e := range x.m.Exports {
		out.Exports = append(out.Exports, store.Export{Name: e.Name, Kind: e.Kind, Addr: x.address(e.Kind, e.Index)})
	}
	return out
}

// active writes the active segments.
func (x *model) active(elems, datas int) api.Errno {
	for i, e := range x.m.Elems {
		if e.Mode != api.Active {
			continue
		}
		at, t := int(x.constant(e.Offset).Lo), x.s.Tables[x.address(api.Table, e.Table)]
		if at+len(e.Init) > len(t.L) {
			return api.TrapTable
		}
		for j, v := range x.s.Elems[elems+i] {
			t.L[at+j] = v
		}
		x.s.Elems[elems+i] = nil
	}
	for i, d := range x.m.Datas {
		if d.Mode != api.Active {
			continue
		}
		at, m := int(x.constant(d.Offset).Lo), x.s.Mems[x.address(api.Mem, d.Mem)]
		if at+len(d.Bytes) > len(m.B) {
			return api.TrapMemory
		}
		for j, b := range d.Bytes {
			m.B[at+j] = b
		}
		x.s.Datas[datas+i] = nil
	}
	return api.OK
}
