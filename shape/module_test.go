package shape_test

import (
	"reflect"
	"slices"
	"strconv"
	"testing"

	"bodkin/api"
	"bodkin/shape"
)

// full is a well-formed module that has something in every list; built anew each time.
func full() api.Module {
	number := api.Instr{Op: 0x41, N: 7}
	choose := api.Instr{Op: 0x0e, A: 1, L: []int{0, 1}}
	return api.Module{
		Types: []api.FuncType{{Params: []int{api.I32, api.F64}, Results: []int{api.I64}}, {}},
		Imports: []api.Import{
			{Module: "m", Name: "f", Kind: api.Func, Type: 1},
			{Module: "m", Name: "t", Kind: api.Table, Table: api.TableType{Ref: api.ExternRef, L: api.Limits{Min: 1, Max: 2, Has: true}}},
			{Module: "", Name: "", Kind: api.Mem, Mem: api.Limits{Min: 1, Max: 3, Has: true}},
			{Module: "é", Name: "€", Kind: api.Global, Global: api.GlobalType{Type: api.V128, Mut: true}},
		},
		Funcs: []api.Code{
			{Type: 1, Locals: []int{api.F32, api.V128}, Body: list(number, block(choose, number), fork(list(plain()), list(number, plain())))},
			{Type: 0, Body: list(api.Instr{Op: 0xfd0c, N: 1, H: 2}, api.Instr{Op: 0x28, A: 2, B: 4}, api.Instr{Op: 0xfc09, A: 1})},
		},
		Tables:  []api.TableType{{Ref: api.FuncRef, L: api.Limits{Min: 1, Max: 5, Has: true}}, {Ref: api.ExternRef, L: api.Limits{Min: 4}}},
		Mems:    []api.Limits{{Min: 1}, {Min: 2, Max: 1, Has: true}},
		Globals: []api.Var{{Type: api.GlobalType{Type: api.I32, Mut: true}, Init: list(number)}, {Type: api.GlobalType{Type: api.FuncRef}, Init: list(api.Instr{Op: 0xd0, A: api.FuncRef})}},
		Exports: []api.Export{{Name: "f", Kind: api.Func, Index: 1}, {Name: "g", Kind: api.Global, Index: 2}},
		Start:   2,
		Elems: []api.Elem{
			{Ref: api.FuncRef, Mode: api.Active, Table: 1, Offset: list(number), Init: [][]api.Instr{{{Op: 0xd2, A: 1}}, {}, {plain(), plain()}}},
			{Ref: api.ExternRef, Mode: api.Passive, Init: [][]api.Instr{{{Op: 0xd0, A: api.ExternRef}}}},
			{Ref: api.FuncRef, Mode: api.Declared},
		},
		Datas: []api.Data{
			{Mode: api.Active, Mem: 1, Offset: list(number, plain()), Bytes: []byte{1, 2, 255}},
			{Mode: api.Passive, Bytes: []byte{0}},
		},
		Count: true,
	}
}

// edit is a change of the full module.
type edit struct {
	what string
	do   func(m *api.Module)
}

// checkEdits checks what May tells of the full module with one change at a time.
func checkEdits(t *testing.T, edits []edit, want bool) {
	t.Helper()
	for _, e := range edits {
		m := full()
		e.do(&m)
		checkMay(t, "a module with "+e.what, m, want)
	}
}

// P9.3: modules with little in them.
func TestLeast(t *testing.T) {
	checkMay(t, "the full module", full(), true)
	checkMay(t, "nothing", api.Module{}, true)
	checkMay(t, "a count", api.Module{Count: true}, true)
	checkMay(t, "empty lists", api.Module{
		Types: []api.FuncType{}, Imports: []api.Import{}, Funcs: []api.Code{}, Tables: []api.TableType{}, Mems: []api.Limits{},
		Globals: []api.Var{}, Exports: []api.Export{}, Elems: []api.Elem{}, Datas: []api.Data{},
	}, true)
	checkMay(t, "empty lists in lists", api.Module{
		Types: []api.FuncType{{Params: []int{}, Results: []int{}}},
		Funcs: []api.Code{{Locals: []int{}, Body: []api.Instr{{Op: 4, L: []int{}, Body: []api.Instr{}, Else: []api.Instr{}}}}},
		Elems: []api.Elem{{Ref: api.FuncRef, Mode: api.Passive, Offset: []api.Instr{}, Init: [][]api.Instr{{}, nil}}},
		Datas: []api.Data{{Mode: api.Passive, Offset: []api.Instr{}, Bytes: []byte{}}},
	}, true)
}

// numberPlaces is every place of a module at which a number of some kind stands.
func numberPlaces(places map[string]func(m *api.Module) *int, numbers []int) []edit {
	out := []edit{}
	for what, place := range places {
		for _, n := range numbers {
			out = append(out, edit{what + " " + strconv.Itoa(n), func(m *api.Module) { *place(m) = n }})
		}
	}
	return out
}

// P9.3: types.
func TestTypes(t *testing.T) {
	values := map[string]func(m *api.Module) *int{
		"the first parameter":  func(m *api.Module) *int { return &m.Types[0].Params[0] },
		"the last parameter":   func(m *api.Module) *int { return &m.Types[0].Params[1] },
		"a result":             func(m *api.Module) *int { return &m.Types[0].Results[0] },
		"the first local":      func(m *api.Module) *int { return &m.Funcs[0].Locals[0] },
		"the last local":       func(m *api.Module) *int { return &m.Funcs[0].Locals[1] },
		"the first global":     func(m *api.Module) *int { return &m.Globals[0].Type.Type },
		"the last global":      func(m *api.Module) *int { return &m.Globals[1].Type.Type },
		"a global's import of": func(m *api.Module) *int { return &m.Imports[3].Global.Type },
	}
	checkEdits(t, numberPlaces(values, valueTypes), true)
	checkEdits(t, numberPlaces(values, noValueTypes), false)
	references := map[string]func(m *api.Module) *int{
		"the first table":     func(m *api.Module) *int { return &m.Tables[0].Ref },
		"the last table":      func(m *api.Module) *int { return &m.Tables[1].Ref },
		"a table's import of": func(m *api.Module) *int { return &m.Imports[1].Table.Ref },
		"an active segment":   func(m *api.Module) *int { return &m.Elems[0].Ref },
		"a passive segment":   func(m *api.Module) *int { return &m.Elems[1].Ref },
		"a declared segment":  func(m *api.Module) *int { return &m.Elems[2].Ref },
	}
	checkEdits(t, numberPlaces(references, refTypes), true)
	checkEdits(t, numberPlaces(references, noRefTypes), false)
}

// P9.3: indices, and what must be in their range.
func TestIndices(t *testing.T) {
	places := map[string]func(m *api.Module) *int{
		"the type of an import":            func(m *api.Module) *int { return &m.Imports[0].Type },
		"the type of the first function":   func(m *api.Module) *int { return &m.Funcs[0].Type },
		"the type of the last function":    func(m *api.Module) *int { return &m.Funcs[1].Type },
		"the index of an export":           func(m *api.Module) *int { return &m.Exports[0].Index },
		"the index of a global's export":   func(m *api.Module) *int { return &m.Exports[1].Index },
		"the table of a segment":           func(m *api.Module) *int { return &m.Elems[0].Table },
		"the memory of a segment":          func(m *api.Module) *int { return &m.Datas[0].Mem },
		"the least of a table":             func(m *api.Module) *int { return &m.Tables[0].L.Min },
		"the greatest of a table":          func(m *api.Module) *int { return &m.Tables[0].L.Max },
		"the least of a table without one": func(m *api.Module) *int { return &m.Tables[1].L.Min },
		"the least of a memory":            func(m *api.Module) *int { return &m.Mems[0].Min },
		"the least of the last memory":     func(m *api.Module) *int { return &m.Mems[1].Min },
		"the greatest of a memory":         func(m *api.Module) *int { return &m.Mems[1].Max },
		"the least of a table's import":    func(m *api.Module) *int { return &m.Imports[1].Table.L.Min },
		"the greatest of a table's import": func(m *api.Module) *int { return &m.Imports[1].Table.L.Max },
		"the least of a memory's import":   func(m *api.Module) *int { return &m.Imports[2].Mem.Min },
		"the greatest of memory's import":  func(m *api.Module) *int { return &m.Imports[2].Mem.Max },
	}
	checkEdits(t, numberPlaces(places, indices), true)
	checkEdits(t, numberPlaces(places, noIndices), false)
	start := map[string]func(m *api.Module) *int{"the start": func(m *api.Module) *int { return &m.Start }}
	checkEdits(t, numberPlaces(start, append([]int{1 << 32}, indices...)), true)
	checkEdits(t, numberPlaces(start, []int{-1, -2, 1<<32 + 1, 1<<32 + 2, -1 << 32, 1 << 40, -1 << 63, 1<<63 - 1}), false)
	for kind := range 4 {
		for _, n := range indices {
			checkMay(t, "an export", api.Module{Exports: []api.Export{{Kind: kind, Index: n}}}, true)
		}
		for _, n := range noIndices {
			checkMay(t, "an export", api.Module{Exports: []api.Export{{Kind: kind, Index: n}}}, false)
		}
	}
}

// P9.3: limits without a greatest.
func TestNoGreatest(t *testing.T) {
	none := map[string]func(m *api.Module) *int{
		"the greatest of a table":          func(m *api.Module) *int { m.Tables[0].L.Has = false; return &m.Tables[0].L.Max },
		"the greatest of a memory":         func(m *api.Module) *int { m.Mems[1].Has = false; return &m.Mems[1].Max },
		"the greatest of a table's import": func(m *api.Module) *int { m.Imports[1].Table.L.Has = false; return &m.Imports[1].Table.L.Max },
		"the greatest of memory's import":  func(m *api.Module) *int { m.Imports[2].Mem.Has = false; return &m.Imports[2].Mem.Max },
	}
	checkEdits(t, numberPlaces(none, []int{0}), true)
	checkEdits(t, numberPlaces(none, append(noIndices, indices[1:]...)), false)
}

// P9.3: names.
func TestNames(t *testing.T) {
	places := map[string]func(m *api.Module) *string{
		"the module of the first import": func(m *api.Module) *string { return &m.Imports[0].Module },
		"the name of the first import":   func(m *api.Module) *string { return &m.Imports[0].Name },
		"the module of the last import":  func(m *api.Module) *string { return &m.Imports[3].Module },
		"the name of the last import":    func(m *api.Module) *string { return &m.Imports[3].Name },
		"the name of the first export":   func(m *api.Module) *string { return &m.Exports[0].Name },
		"the name of the last export":    func(m *api.Module) *string { return &m.Exports[1].Name },
	}
	for what, place := range places {
		for _, text := range texts {
			checkEdits(t, []edit{{what + " " + text, func(m *api.Module) { *place(m) = text }}}, true)
		}
		for _, text := range noTexts {
			checkEdits(t, []edit{{what + " " + strconv.Quote(text), func(m *api.Module) { *place(m) = text }}}, false)
		}
	}
}

// P9.3: how many locals a function may have.
func TestLocals(t *testing.T) {
	for _, n := range []int{0, 1, api.MaxLocals - 1, api.MaxLocals} {
		checkMay(t, strconv.Itoa(n), api.Module{Funcs: []api.Code{{Locals: same(api.I64, n)}, {Locals: same(api.F32, n)}}}, true)
	}
	for _, n := range []int{api.MaxLocals + 1, 2 * api.MaxLocals} {
		checkMay(t, strconv.Itoa(n), api.Module{Funcs: []api.Code{{Locals: same(api.I64, n)}, {}}}, false)
		checkMay(t, strconv.Itoa(n)+" in the last", api.Module{Funcs: []api.Code{{}, {Locals: same(api.I64, n)}}}, false)
	}
	// Parameters are no locals.
	many := same(api.I32, api.MaxLocals+1)
	checkMay(t, "many parameters", api.Module{Types: []api.FuncType{{Params: many, Results: many}}, Funcs: []api.Code{{Locals: many[1:]}}}, true)
}

// P9.3: how deep instructions may be nested.
func TestDepth(t *testing.T) {
	for _, depth := range []int{1, 2, api.MaxNest - 1, api.MaxNest} {
		checkCode(t, "nest "+strconv.Itoa(depth), tower(depth), true)
	}
	for _, depth := range []int{api.MaxNest + 1, api.MaxNest + 2, 2 * api.MaxNest, 1 << 16} {
		checkCode(t, "nest "+strconv.Itoa(depth), tower(depth), false)
	}
	// It is only the deepest that counts.
	checkCode(t, "towers", slices.Concat(tower(api.MaxNest), tower(api.MaxNest), tower(3)), true)
	checkCode(t, "towers", slices.Concat(tower(3), tower(api.MaxNest), tower(api.MaxNest+1), tower(4)), false)
	checkCode(t, "a block with nothing in it", list(block(tower(api.MaxNest-2)...), block(block())), true)
	only := list(block())
	for range api.MaxNest - 1 {
		only = list(block(only...))
	}
	checkCode(t, "blocks alone", only, true)
	checkCode(t, "blocks alone", list(block(only...)), false)
}

// P9.3: kinds of imports and exports, and which fields of an import are used.
func TestKinds(t *testing.T) {
	uses := []api.Import{
		{Type: 1},
		{Table: api.TableType{Ref: api.FuncRef}},
		{Table: api.TableType{L: api.Limits{Min: 1}}},
		{Table: api.TableType{L: api.Limits{Has: true}}},
		{Mem: api.Limits{Min: 1}},
		{Mem: api.Limits{Has: true}},
		{Global: api.GlobalType{Type: api.I32}},
		{Global: api.GlobalType{Mut: true}},
	}
	kinds := []int{api.Func, api.Table, api.Table, api.Table, api.Mem, api.Mem, api.Global, api.Global}
	good := []api.Import{
		{Kind: api.Func, Type: 1},
		{Kind: api.Func},
		{Kind: api.Table, Table: api.TableType{Ref: api.FuncRef, L: api.Limits{Min: 1}}},
		{Kind: api.Table, Table: api.TableType{Ref: api.ExternRef}},
		{Kind: api.Mem, Mem: api.Limits{Min: 1, Has: true}},
		{Kind: api.Mem},
		{Kind: api.Global, Global: api.GlobalType{Type: api.F32}},
		{Kind: api.Global, Global: api.GlobalType{Type: api.FuncRef, Mut: true}},
	}
	for _, g := range good {
		checkMay(t, "an import", api.Module{Imports: []api.Import{g}}, true)
		for i, u := range uses {
			if kinds[i] == g.Kind {
				continue
			}
			checkMay(t, "an import with another's type", api.Module{Imports: []api.Import{good[0], merge(g, u), good[1]}}, false)
		}
		for _, kind := range []int{-1, 4, 5, 255, 256, 1 << 32, -1 << 63} {
			g.Kind = kind
			checkMay(t, "an import of a kind that there isn't", api.Module{Imports: []api.Import{g}}, false)
		}
	}
	for _, kind := range []int{-1, 4, 5, 255, 256, 1 << 32, -1 << 63} {
		checkMay(t, "an import of a kind that there isn't", api.Module{Imports: []api.Import{{Kind: kind}}}, false)
		checkMay(t, "an export of a kind that there isn't", api.Module{Exports: []api.Export{{}, {Kind: kind}}}, false)
	}
	for _, kind := range []int{api.Table, api.Global} {
		checkMay(t, "an import without its type", api.Module{Imports: []api.Import{{Kind: kind}}}, false)
	}
}

// merge is an import with one more field.
func merge(i, more api.Import) api.Import {
	i.Type += more.Type
	i.Table.Ref += more.Table.Ref
	i.Table.L.Min += more.Table.L.Min
	i.Table.L.Has = i.Table.L.Has || more.Table.L.Has
	i.Mem.Min += more.Mem.Min
	i.Mem.Has = i.Mem.Has || more.Mem.Has
	i.Global.Type += more.Global.Type
	i.Global.Mut = i.Global.Mut || more.Global.Mut
	return i
}

// P9.3: modes of segments, and which fields they use.
func TestModes(t *testing.T) {
	code := list(plain())
	for _, e := range []api.Elem{
		{Ref: api.FuncRef, Mode: api.Active},
		{Ref: api.FuncRef, Mode: api.Active, Table: 1},
		{Ref: api.FuncRef, Mode: api.Active, Table: 1, Offset: code, Init: [][]api.Instr{code}},
		{Ref: api.FuncRef, Mode: api.Passive, Init: [][]api.Instr{code, code}},
		{Ref: api.FuncRef, Mode: api.Declared, Init: [][]api.Instr{nil}},
	} {
		checkMay(t, "a segment", api.Module{Elems: []api.Elem{e}}, true)
	}
	for _, mode := range []int{api.Passive, api.Declared} {
		for _, e := range []api.Elem{{Table: 1}, {Table: -1}, {Offset: code}, {Table: 1, Offset: code, Init: [][]api.Instr{code}}} {
			e.Ref, e.Mode = api.FuncRef, mode
			checkMay(t, "a segment with what only an active one has", api.Module{Elems: []api.Elem{e}}, false)
		}
	}
	for _, mode := range []int{-1, 3, 4, 256, 1 << 32, -1 << 63} {
		checkMay(t, "a mode that there isn't", api.Module{Elems: []api.Elem{{Ref: api.FuncRef, Mode: mode}}}, false)
	}
	for _, d := range []api.Data{{Mode: api.Active}, {Mode: api.Active, Mem: 1, Offset: code, Bytes: []byte{0}}, {Mode: api.Passive}, {Mode: api.Passive, Bytes: []byte{0, 255}}} {
		checkMay(t, "a segment", api.Module{Datas: []api.Data{d}}, true)
	}
	for _, d := range []api.Data{{Mem: 1}, {Mem: -1}, {Offset: code}, {Mem: 1, Offset: code, Bytes: []byte{1}}} {
		d.Mode = api.Passive
		checkMay(t, "a segment with what only an active one has", api.Module{Datas: []api.Data{{}, d}}, false)
	}
	for _, mode := range []int{-1, api.Declared, 3, 256, 1 << 32, -1 << 63} {
		checkMay(t, "a mode that there isn't", api.Module{Datas: []api.Data{{Mode: mode}}}, false)
	}
}

// P9.3: which instructions ask for a count, and where.
func TestCounted(t *testing.T) {
	for _, name := range []string{"memory.init", "data.drop"} {
		for what, l := range map[string][]api.Instr{
			"alone":       list(api.Instr{Op: op(t, name), A: 3}),
			"last":        list(plain(), api.Instr{Op: op(t, name)}),
			"in a block":  list(block(plain(), api.Instr{Op: op(t, name)}, plain())),
			"in an if":    list(fork(list(api.Instr{Op: op(t, name)}), nil)),
			"in an else":  list(plain(), fork(list(plain()), list(block(plain()), block(plain(), api.Instr{Op: op(t, name)}))), plain()),
			"at the deep": deep(api.Instr{Op: op(t, name)}),
		} {
			for place, m := range within(l) {
				m.Count = true
				checkMay(t, name+" "+what+" in a "+place, m, true)
				m.Count = false
				checkMay(t, name+" "+what+" in a "+place+" without a count", m, len(m.Funcs) == 0)
			}
		}
	}
	for _, name := range []string{"memory.copy", "memory.fill", "table.init", "elem.drop", "nop", "block"} {
		m := api.Module{Funcs: []api.Code{{Body: list(api.Instr{Op: op(t, name)})}}, Datas: []api.Data{{}}}
		checkMay(t, name+" without a count", m, true)
	}
}

// deep is an instruction in as many blocks as may be.
func deep(in api.Instr) []api.Instr {
	l := list(in)
	for range api.MaxNest - 1 {
		l = list(block(l...))
	}
	return l
}

// P9.3: what is wrong at one place is not made good by what is right at others, and what is right stays so.
func TestEdits(t *testing.T) {
	checkEdits(t, []edit{
		{"no start", func(m *api.Module) { m.Start = 0 }},
		{"no types", func(m *api.Module) { m.Types = nil }},
		{"no functions and no count", func(m *api.Module) { m.Funcs, m.Count = nil, false }},
		{"no segments", func(m *api.Module) { m.Elems, m.Datas = nil, nil }},
		{"names twice", func(m *api.Module) { m.Exports[1].Name = "f" }},
		{"a global that can be changed", func(m *api.Module) { m.Globals[1].Type.Mut = true }},
		{"limits the wrong way round", func(m *api.Module) { m.Tables[0].L = api.Limits{Min: 1<<32 - 1, Has: true} }},
		{"an init that is empty", func(m *api.Module) { m.Globals[0].Init = nil }},
	}, true)
	checkEdits(t, []edit{
		{"no count", func(m *api.Module) { m.Count = false }},
		{"another kind of import", func(m *api.Module) { m.Imports[0].Kind = api.Mem }},
		{"an active segment made passive", func(m *api.Module) { m.Elems[0].Mode = api.Passive }},
		{"an active segment made declared", func(m *api.Module) { m.Elems[0].Mode = api.Declared }},
		{"active data made passive", func(m *api.Module) { m.Datas[0].Mode = api.Passive }},
		{"passive data made declared", func(m *api.Module) { m.Datas[1].Mode = api.Declared }},
		{"no greatest", func(m *api.Module) { m.Mems[1].Has = false }},
		{"no else", func(m *api.Module) { m.Funcs[0].Body[2].Other = false }},
	}, false)
}

// P9.3: what is handed in is not changed, whatever May tells.
func TestMayChangesNothing(t *testing.T) {
	m := full()
	shape.May(m)
	if !reflect.DeepEqual(m, full()) {
		t.Error("changed")
	}
	m.Count = false
	shape.May(m)
	m.Count = true
	if !reflect.DeepEqual(m, full()) {
		t.Error("changed")
	}
}
