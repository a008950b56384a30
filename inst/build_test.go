package inst_test

import (
	"testing"

	"bodkin/api"
	"bodkin/inst"
	"bodkin/store"
)

// full is a module with imports of each kind, in a mixed order, and objects of its own of each kind.
func full() (api.Module, []inst.Extern) {
	m := api.Module{
		Types: []api.FuncType{funcType("-> i32"), funcType("i32 -> i32"), funcType("->")},
		Imports: []api.Import{
			globalImport("i32"), funcImport(1), tableImport("func 3-9"), funcImport(2), globalImport("func"), memImport("2"), globalImport("mut i64"), tableImport("extern 1"), globalImport("v128"),
		},
		Funcs:  []api.Code{{Type: 1, Body: code("local.get:0")}, {Type: 2, Locals: typesOf("i64 f32")}, {Type: 0, Body: code("i32.const:7")}},
		Tables: []api.TableType{tableType("extern 3"), tableType("func 0-4"), tableType("func 2-2")},
		Exports: []api.Export{
			{Name: "f", Index: 4}, {Name: "g"}, {Name: "h", Index: 2}, {Name: "t", Kind: api.Table, Index: 4}, {Name: "u", Kind: api.Table, Index: 1}, {Name: "", Kind: api.Mem},
			{Name: "x", Kind: api.Global, Index: 3}, {Name: "y", Kind: api.Global, Index: 4}, {Name: "z", Kind: api.Global, Index: 14}, {Name: "f2", Index: 4},
		},
		Elems: []api.Elem{
			{Ref: api.FuncRef, Mode: api.Passive, Init: codes("ref.func:0; global.get:1; ref.null:func; ref.func:4")},
			{Ref: api.FuncRef, Mode: api.Declared, Init: codes("ref.func:2; ref.null:func")},
			{Ref: api.FuncRef, Table: 0, Offset: code("i32.const:1"), Init: codes("ref.func:2; global.get:1")},
			{Ref: api.ExternRef, Mode: api.Passive, Init: codes("ref.null:extern")},
			{Ref: api.FuncRef, Mode: api.Passive},
			{Ref: api.FuncRef, Table: 4, Offset: code("i32.const:0"), Init: codes("ref.func:3")},
		},
		Datas: []api.Data{
			{Mode: api.Passive, Bytes: []byte("passive")},
			{Offset: code("global.get:0"), Bytes: []byte("active")},
			{Mode: api.Passive},
		},
		Count: true,
	}
	for _, text := range []string{"i32", "mut i64", "f32", "mut f64", "v128", "func", "mut extern", "func", "mut func", "i32", "mut v128", "func"} {
		m.Globals = append(m.Globals, api.Var{Type: globalType(text)})
	}
	inits := codes("i32.const:-5; i64.const:-6; f32.const:0xffa00001; f64.const:0xfff4000000000001; v128.const:-1,2; ref.null:func; ref.null:extern; ref.func:1; ref.func:4; global.get:0; global.get:3; global.get:1")
	for i := range m.Globals {
		m.Globals[i].Init = inits[i]
	}
	given := []inst.Extern{
		{Kind: api.Global, Addr: 0}, {Kind: api.Func, Addr: 1}, {Kind: api.Table, Addr: 0}, {Kind: api.Func, Addr: 0}, {Kind: api.Global, Addr: 10}, {Kind: api.Mem, Addr: 0},
		{Kind: api.Global, Addr: 3}, {Kind: api.Table, Addr: 3}, {Kind: api.Global, Addr: 8},
	}
	return m, given
}

// fullBuilt is world with full, by hand.
func fullBuilt() *store.Store {
	m, _ := full()
	s := world()
	s.Funcs = append(s.Funcs, store.Func{Type: funcType("i32 -> i32"), Inst: 2}, store.Func{Type: funcType("->"), Inst: 2, Code: 1}, store.Func{Type: funcType("-> i32"), Inst: 2, Code: 2})
	s.Tables[0].L = values("func:null func:6 func:1")
	s.Tables = append(s.Tables,
		&store.Table{Type: tableType("extern 3"), L: values("extern:null extern:null extern:null")},
		&store.Table{Type: tableType("func 0-4")},
		&store.Table{Type: tableType("func 2-2"), L: values("func:7 func:null")})
	copy(s.Mems[0].B[41:], "active")
	for i, v := range values("i32:-5 i64:-6 f32:0xffa00001 f64:0xfff4000000000001 v128:-1,2 func:null extern:null func:0 func:8 i32:41 v128:6,7 func:1") {
		s.Globals = append(s.Globals, &store.Global{Type: m.Globals[i].Type, V: v})
	}
	s.Elems = append(s.Elems, values("func:1 func:1 func:null func:8"), nil, nil, values("extern:null"), nil, nil)
	s.Datas = append(s.Datas, []byte("passive"), nil, nil)
	s.Insts = append(s.Insts, &store.Inst{
		Module: m, Funcs: []int{1, 0, 6, 7, 8}, Tables: []int{0, 3, 4, 5, 6}, Mems: []int{0}, Globals: []int{0, 10, 3, 8, 18, 19, 20, 21, 22, 23, 24, 25, 26, 27, 28, 29},
		Elems: []int{2, 3, 4, 5, 6, 7}, Datas: []int{3, 4, 5},
		Exports: []store.Export{
			{Name: "f", Addr: 8}, {Name: "g", Addr: 1}, {Name: "h", Addr: 6}, {Name: "t", Kind: api.Table, Addr: 6}, {Name: "u", Kind: api.Table, Addr: 3}, {Name: "", Kind: api.Mem},
			{Name: "x", Kind: api.Global, Addr: 8}, {Name: "y", Kind: api.Global, Addr: 18}, {Name: "z", Kind: api.Global, Addr: 28}, {Name: "f2", Addr: 8},
		},
	})
	return s
}

// P16.2, P16.3: all that is put into the store, by hand.
func TestBuild(t *testing.T) {
	m, given := full()
	s := world()
	placed(t, s, m, given, usual, outcome{number: 2})
	if d := difference(s, fullBuilt()); d != "" {
		t.Error("there is a difference in", d)
		for i, want := range fullBuilt().Insts {
			t.Log(s.Insts[i].Funcs, want.Funcs, s.Insts[i].Exports, want.Exports)
		}
	}
	for name, want := range map[string]inst.Extern{"f": {Addr: 8}, "g": {Addr: 1}, "t": {Kind: api.Table, Addr: 6}, "": {Kind: api.Mem}, "z": {Kind: api.Global, Addr: 28}} {
		if x, ok := inst.Find(s, 2, name); x != want || !ok {
			t.Errorf("%q is %v %v", name, x, ok)
		}
	}
}

// P16.2: memories of the module's own, with their limits and pages of zeros.
func TestMemories(t *testing.T) {
	for _, text := range []string{"0", "1", "3", "0-0", "0-9", "2-2", "2-65536"} {
		s, want := world(), world()
		m := api.Module{Mems: []api.Limits{limits(text)}, Exports: []api.Export{{Name: "m", Kind: api.Mem}}}
		want.Mems = append(want.Mems, &store.Mem{L: limits(text), B: make([]byte, limits(text).Min*65536)})
		want.Insts = append(want.Insts, &store.Inst{Module: m, Mems: []int{3}, Exports: []store.Export{{Name: "m", Kind: api.Mem, Addr: 3}}})
		placed(t, s, m, nil, usual, outcome{number: 2})
		if d := difference(s, want); d != "" {
			t.Error("with", text, "there is a difference in", d)
		}
	}
}

// P16.2: tables of the module's own, also the greatest one.
func TestTables(t *testing.T) {
	for _, text := range []string{"func 0", "extern 0", "func 10000", "extern 10000-10000", "extern 1-0xffffffff", "func 9999-20000"} {
		typ := tableType(text)
		s := world()
		placed(t, s, api.Module{Tables: []api.TableType{typ, typ}}, nil, usual, outcome{number: 2})
		if len(s.Tables) != 6 || s.Tables[4] == s.Tables[5] {
			t.Error("with", text, "there are", len(s.Tables), "tables")
			continue
		}
		for _, x := range s.Tables[4:] {
			if x.Type != typ || len(x.L) != typ.L.Min {
				t.Error(text, "is", x.Type, "with", len(x.L), "elements")
			}
			for _, v := range x.L {
				if v != (api.Value{Type: typ.Ref, Null: true}) {
					t.Fatal("an element of", text, "is", v)
				}
			}
		}
	}
}

// P16.3: each constant has the value of its number, and each of the imported globals that may be one, its own.
func TestConstants(t *testing.T) {
	type constant struct{ init, want string }
	l := []constant{
		{"i32.const:0", "i32:0"}, {"i32.const:-1", "i32:0xffffffff"}, {"i32.const:0x80000000", "i32:0x80000000"},
		{"i64.const:0", "i64:0"}, {"i64.const:-1", "i64:0xffffffffffffffff"}, {"i64.const:0x123456789abcdef0", "i64:0x123456789abcdef0"},
		{"f32.const:0x7fa00000", "f32:0x7fa00000"}, {"f32.const:0xffffffff", "f32:0xffffffff"}, {"f32.const:0x80000000", "f32:0x80000000"},
		{"f64.const:0x7ff4000000000000", "f64:0x7ff4000000000000"}, {"f64.const:0xffffffffffffffff", "f64:0xffffffffffffffff"},
		{"v128.const:1,2", "v128:1,2"}, {"v128.const:0,-1", "v128:0,-1"}, {"v128.const:-1,0", "v128:-1,0"},
		{"ref.null:func", "func:null"}, {"ref.null:extern", "extern:null"},
		{"ref.func:0", "func:3"}, {"ref.func:1", "func:6"}, {"ref.func:2", "func:7"},
		{"global.get:0", "i32:41"}, {"global.get:1", "i64:-42"}, {"global.get:2", "f32:0x7f800001"}, {"global.get:3", "f64:5"}, {"global.get:4", "v128:6,7"},
		{"global.get:5", "func:1"}, {"global.get:6", "func:null"}, {"global.get:7", "extern:8"}, {"global.get:8", "extern:null"},
	}
	s := world()
	m := typed()
	m.Imports = []api.Import{funcImport(3)}
	given := []inst.Extern{{Addr: 3}}
	for addr := 0; addr < len(s.Globals); addr += 2 {
		m.Imports = append(m.Imports, api.Import{Kind: api.Global, Global: s.Globals[addr].Type})
		given = append(given, inst.Extern{Kind: api.Global, Addr: addr})
	}
	m.Funcs = make([]api.Code, 2)
	for _, c := range l {
		typ := values(c.want)[0].Type
		m.Globals = append(m.Globals, api.Var{Type: api.GlobalType{Type: typ}, Init: code(c.init)})
		if typ == api.FuncRef || typ == api.ExternRef {
			m.Elems = append(m.Elems, api.Elem{Ref: typ, Mode: api.Passive, Init: codes(c.init)})
		}
	}
	placed(t, s, m, given, usual, outcome{number: 2})
	elem := 2
	for i, c := range l {
		want := values(c.want)[0]
		if got := s.Globals[18+i]; got.V != want || got.Type != (api.GlobalType{Type: want.Type}) {
			t.Error(c.init, "as a global is", got)
		}
		if want.Type == api.FuncRef || want.Type == api.ExternRef {
			if got := s.Elems[elem]; len(got) != 1 || got[0] != want {
				t.Error(c.init, "as an element is", got)
			}
			elem++
		}
	}
}

// P16.3: an offset is a constant, or that of an imported global.
func TestOffsets(t *testing.T) {
	for _, c := range []struct {
		offset string
		at     int
	}{{"i32.const:0", 0}, {"i32.const:5", 5}, {"i32.const:60", 60}, {"global.get:0", 41}, {"global.get:1", 7}} {
		s := world()
		s.Globals[2] = &store.Global{Type: globalType("i32"), V: values("i32:7")[0]}
		m := api.Module{
			Types: []api.FuncType{{}}, Imports: []api.Import{globalImport("i32"), globalImport("i32")}, Funcs: make([]api.Code, 1),
			Tables: []api.TableType{tableType("extern 0"), tableType("func 61")}, Mems: []api.Limits{limits("1")},
			Globals: []api.Var{{Type: globalType("i32"), Init: code("i32.const:30")}},
			Elems:   []api.Elem{{Ref: api.FuncRef, Table: 1, Offset: code(c.offset), Init: codes("ref.func:0")}},
			Datas:   []api.Data{{Offset: code(c.offset), Bytes: []byte{99}}},
		}
		placed(t, s, m, []inst.Extern{{Kind: api.Global}, {Kind: api.Global, Addr: 2}}, usual, outcome{number: 2})
		for i, v := range s.Tables[5].L {
			if v.Null != (i != c.at) {
				t.Error(c.offset, "has", v, "at", i)
			}
		}
		for i, b := range s.Mems[3].B {
			if (b == 99) != (i == c.at) {
				t.Error(c.offset, "has", b, "at", i)
			}
		}
	}
}

// P16.2: the same object may be given for several imports.
func TestTwice(t *testing.T) {
	m := typed()
	m.Imports = []api.Import{tableImport("func 2"), tableImport("func 3-5"), globalImport("mut i32"), globalImport("mut i32"), funcImport(1), funcImport(1)}
	m.Elems = []api.Elem{
		{Ref: api.FuncRef, Table: 0, Offset: code("i32.const:0"), Init: codes("ref.func:0; ref.func:0")},
		{Ref: api.FuncRef, Table: 1, Offset: code("i32.const:1"), Init: codes("ref.null:func; ref.func:1")},
	}
	s, want := world(), world()
	given := []inst.Extern{{Kind: api.Table}, {Kind: api.Table}, {Kind: api.Global, Addr: 1}, {Kind: api.Global, Addr: 1}, {Addr: 1}, {Addr: 1}}
	placed(t, s, m, given, usual, outcome{number: 2})
	want.Tables[0].L = values("func:1 func:null func:1")
	want.Elems = append(want.Elems, nil, nil)
	want.Insts = append(want.Insts, &store.Inst{Module: m, Funcs: []int{1, 1}, Tables: []int{0, 0}, Globals: []int{1, 1}, Elems: []int{2, 3}})
	if d := difference(s, want); d != "" {
		t.Error("there is a difference in", d)
	}
}
