package inst_test

import (
	"slices"
	"testing"

	"bodkin/api"
	"bodkin/inst"
	"bodkin/run"
	"bodkin/store"
	"bodkin/valid"
)

// checkSound makes sure that the objects of a store are of their types, and those of its instances agree with their modules.
func checkSound(t *testing.T, s *store.Store) {
	t.Helper()
	for i, g := range s.Globals {
		if !run.Fits(s, g.V, g.Type.Type) {
			t.Error("the value", g.V, "of the global", i, "does not fit", g.Type)
		}
	}
	for i, x := range s.Tables {
		if !allFit(s, x.L, x.Type.Ref) {
			t.Error("the elements", x.L, "of the table", i, "do not fit", x.Type)
		}
		if n := len(x.L); n < x.Type.L.Min || n > api.MaxTable || x.Type.L.Has && n > x.Type.L.Max {
			t.Error("the table", i, "has", n, "elements and the type", x.Type)
		}
	}
	for i, m := range s.Mems {
		n := len(m.B) / api.PageSize
		if len(m.B)%api.PageSize != 0 || n < m.L.Min || n > api.MaxPages || m.L.Has && n > m.L.Max {
			t.Error("the memory", i, "has", len(m.B), "bytes and the limits", m.L)
		}
	}
	for i, x := range s.Insts {
		checkInst(t, s, i, x)
	}
}

// allFit tells whether all values of a list are of a type.
func allFit(s *store.Store, l []api.Value, typ int) bool {
	return !slices.ContainsFunc(l, func(v api.Value) bool { return !run.Fits(s, v, typ) })
}

// ofKind are the imports of a kind.
func ofKind(m api.Module, kind int) []api.Import {
	return slices.DeleteFunc(slices.Clone(m.Imports), func(i api.Import) bool { return i.Kind != kind })
}

// checkInst makes sure that an instance agrees with its module, if it has one.
func checkInst(t *testing.T, s *store.Store, number int, x *store.Inst) {
	t.Helper()
	m := x.Module
	if e := valid.Check(m); e != api.OK {
		t.Error("the module of the instance", number, "is not valid:", int(e))
	}
	for kind, l := range [][]int{x.Funcs, x.Tables, x.Mems, x.Globals} {
		asked := ofKind(m, kind)
		own := []int{len(m.Funcs), len(m.Tables), len(m.Mems), len(m.Globals)}[kind]
		if len(l) != len(asked)+own {
			t.Error("the instance", number, "has the addresses", l, "of", kind)
			continue
		}
		for i, i2 := range asked {
			if !inst.Fits(s, inst.Extern{Kind: kind, Addr: l[i]}, i2, m) {
				t.Error("the instance", number, "has", l[i], "for", i2)
			}
		}
		for i, addr := range l[len(asked):] {
			checkOwn(t, s, number, m, kind, i, addr)
		}
	}
	checkSegments(t, s, number, x)
	if len(m.Exports) != len(x.Exports) && number > 1 {
		t.Error("the instance", number, "gives", x.Exports, "for", m.Exports)
		return
	}
	for i, e := range m.Exports {
		addr := [][]int{x.Funcs, x.Tables, x.Mems, x.Globals}[e.Kind][e.Index]
		if x.Exports[i] != (store.Export{Name: e.Name, Kind: e.Kind, Addr: addr}) {
			t.Error("the instance", number, "gives", x.Exports[i], "for", e)
		}
	}
}

// checkOwn makes sure that an object agrees with what its module has of its own.
func checkOwn(t *testing.T, s *store.Store, number int, m api.Module, kind, i, addr int) {
	t.Helper()
	is := false
	switch kind {
	case api.Func:
		is = sameFunc(s.Funcs[addr], store.Func{Type: m.Types[m.Funcs[i].Type], Inst: number, Code: i})
	case api.Table:
		is = s.Tables[addr].Type == m.Tables[i]
	case api.Mem:
		is = s.Mems[addr].L == m.Mems[i]
	case api.Global:
		is = s.Globals[addr].Type == m.Globals[i].Type
	}
	if !is {
		t.Error("the instance", number, "has", addr, "for its object", i, "of", kind)
	}
}

// checkSegments makes sure that an instance has its segments, each of them whole or empty.
func checkSegments(t *testing.T, s *store.Store, number int, x *store.Inst) {
	t.Helper()
	if len(x.Elems) != len(x.Module.Elems) || len(x.Datas) != len(x.Module.Datas) {
		t.Error("the instance", number, "has the segments", x.Elems, x.Datas)
		return
	}
	for i, addr := range x.Elems {
		e, l := x.Module.Elems[i], s.Elems[addr]
		if !allFit(s, l, e.Ref) || len(l) != 0 && (len(l) != len(e.Init) || e.Mode == api.Declared) {
			t.Error("the segment", i, "of the instance", number, "has", l)
		}
	}
	for i, addr := range x.Datas {
		if b := s.Datas[addr]; len(b) != 0 && !slices.Equal(b, x.Module.Datas[i].Bytes) {
			t.Error("the segment", i, "of bytes of the instance", number, "has", b)
		}
	}
}
