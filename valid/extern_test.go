package valid_test

import (
	"reflect"
	"slices"
	"testing"

	"bodkin/api"
	"bodkin/shape"
	"bodkin/valid"
)

// plain is externs with nil for lists without elements.
func plain(l []valid.Extern) []valid.Extern {
	var out []valid.Extern
	for _, x := range l {
		x.Func = api.FuncType{Params: append([]int(nil), x.Func.Params...), Results: append([]int(nil), x.Func.Results...)}
		out = append(out, x)
	}
	return out
}

// checkExterns checks what Imports and Exports tell of a module.
func checkExterns(t *testing.T, m api.Module, imports, exports []valid.Extern) {
	t.Helper()
	before := shape.Copy(m)
	got, e := valid.Imports(m)
	if e != api.OK || !reflect.DeepEqual(plain(got), imports) {
		t.Errorf("Imports are %v %d and not %v", got, int(e), imports)
	}
	got, e = valid.Exports(m)
	if e != api.OK || !reflect.DeepEqual(plain(got), exports) {
		t.Errorf("Exports are %v %d and not %v", got, int(e), exports)
	}
	if !shape.Same(m, before) {
		t.Error("Imports or Exports change the module")
	}
}

// P12.3: imports and exports of all kinds, imported or not, by hand.
func TestExterns(t *testing.T) {
	m := full()
	m.Imports = append(m.Imports, api.Import{Module: "", Name: "é", Kind: api.Mem, Mem: limits(2, 65536)}, api.Import{Module: "x", Kind: api.Func, Type: 3})
	m.Mems = nil
	m.Exports = append(m.Exports,
		api.Export{Name: "f1", Kind: api.Func, Index: 1}, api.Export{Name: "f2", Kind: api.Func, Index: 2}, api.Export{Name: "f5", Kind: api.Func, Index: 5},
		api.Export{Name: "t0", Kind: api.Table, Index: 0}, api.Export{Name: "t2", Kind: api.Table, Index: 2}, api.Export{Name: "", Kind: api.Table, Index: 3},
		api.Export{Name: "g0", Kind: api.Global, Index: 0}, api.Export{Name: "g1", Kind: api.Global, Index: 1}, api.Export{Name: "g2", Kind: api.Global, Index: 2},
		api.Export{Name: "again", Kind: api.Func, Index: 0},
	)
	// The import that has been added is function 1; those behind it move.
	m.Globals[1].Init, m.Elems[0].Init[0] = code("ref.func:3"), code("ref.func:4")
	of := func(text string) api.FuncType {
		f, _ := signature(text)
		return f
	}
	table := func(ref int, l api.Limits) api.TableType { return api.TableType{Ref: ref, L: l} }
	checkExterns(t, m, []valid.Extern{
		{Module: "m", Name: "f", Kind: api.Func, Func: of("i32 -> i64")},
		{Module: "m", Name: "g", Kind: api.Global, Global: api.GlobalType{Type: api.I64}},
		{Module: "n", Name: "t", Kind: api.Table, Table: table(api.ExternRef, limits(1, 2))},
		{Module: "m", Name: "g", Kind: api.Global, Global: api.GlobalType{Type: api.F32, Mut: true}},
		{Module: "", Name: "é", Kind: api.Mem, Mem: limits(2, 65536)},
		{Module: "x", Name: "", Kind: api.Func, Func: of("i32 f32 -> f64 v128")},
	}, []valid.Extern{
		{Name: "f", Kind: api.Func, Func: of("i32 -> i64")},
		{Name: "t", Kind: api.Table, Table: table(api.FuncRef, api.Limits{Min: 5})},
		{Name: "m", Kind: api.Mem, Mem: limits(2, 65536)},
		{Name: "g", Kind: api.Global, Global: api.GlobalType{Type: api.FuncRef}},
		{Name: "f1", Kind: api.Func, Func: of("i32 f32 -> f64 v128")},
		{Name: "f2", Kind: api.Func, Func: of("i32 -> i64")},
		{Name: "f5", Kind: api.Func, Func: of("->")},
		{Name: "t0", Kind: api.Table, Table: table(api.ExternRef, limits(1, 2))},
		{Name: "t2", Kind: api.Table, Table: table(api.FuncRef, limits(0, 0))},
		{Name: "", Kind: api.Table, Table: table(api.ExternRef, api.Limits{})},
		{Name: "g0", Kind: api.Global, Global: api.GlobalType{Type: api.I64}},
		{Name: "g1", Kind: api.Global, Global: api.GlobalType{Type: api.F32, Mut: true}},
		{Name: "g2", Kind: api.Global, Global: api.GlobalType{Type: api.V128, Mut: true}},
		{Name: "again", Kind: api.Func, Func: of("i32 -> i64")},
	})
	checkExterns(t, api.Module{}, nil, nil)
	own := full()
	exports, _ := valid.Exports(own)
	if len(exports) != 4 || exports[2].Mem != (api.Limits{Min: 1}) {
		t.Error("Exports of the full module are", exports)
	}
}

// P12.3: of what is not valid, Imports and Exports tell the error of Check, and nothing else.
func TestExternErrors(t *testing.T) {
	for want, spoil := range map[api.Errno]func(m *api.Module){
		api.ErrInvalid: func(m *api.Module) { m.Funcs[0].Body = nil },
		api.ErrArg:     func(m *api.Module) { m.Types[0].Results = []int{1}; m.Funcs[0].Body = nil },
	} {
		m := full()
		spoil(&m)
		checkIs(t, "a wrong module", m, want)
		if l, e := valid.Imports(m); e != want || len(l) != 0 {
			t.Error("Imports of a wrong module are", l, int(e))
		}
		if l, e := valid.Exports(m); e != want || len(l) != 0 {
			t.Error("Exports of a wrong module are", l, int(e))
		}
	}
	missing := full()
	missing.Imports[0].Type = 8
	if l, e := valid.Imports(missing); e != api.ErrInvalid || len(l) != 0 {
		t.Error("Imports of a type that isn't there are", l, int(e))
	}
	missing = full()
	missing.Exports[0].Index = 6
	if l, e := valid.Exports(missing); e != api.ErrInvalid || len(l) != 0 {
		t.Error("Exports of a function that isn't there are", l, int(e))
	}
}

// P12.3: what is done to one of the results changes neither the module nor another result.
func TestExternsInNewMemory(t *testing.T) {
	for _, ask := range []func(api.Module) ([]valid.Extern, api.Errno){valid.Imports, valid.Exports} {
		m := full()
		m.Imports = append(slices.Repeat(m.Imports[:1], 2), m.Imports...)
		m.Exports = append(m.Exports, api.Export{Name: "1", Index: 0}, api.Export{Name: "2", Index: 1})
		before := shape.Copy(m)
		l, e := ask(m)
		want := plain(l)
		again, _ := ask(m)
		for i := range l {
			x := &l[i]
			for place := range x.Func.Params {
				x.Func.Params[place] = 1
			}
			for place := range x.Func.Results {
				x.Func.Results[place] = 2
			}
			x.Func.Params, x.Func.Results = append(x.Func.Params, 3), append(x.Func.Results, 4)
			if !reflect.DeepEqual(plain(l[i+1:]), plain(want[i+1:])) {
				t.Error("a change of", i, "is a change of others")
			}
		}
		if e != api.OK || len(l) < 4 || !shape.Same(m, before) || !reflect.DeepEqual(plain(again), want) {
			t.Error("a change of a result is a change of the module, or of another answer")
		}
	}
}
