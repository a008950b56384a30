package valid_test

import (
	"slices"
	"strconv"
	"testing"

	"bodkin/api"
	"bodkin/ops"
)

// change is a module that differs from the full one, and whether it is valid.
type change struct {
	what string
	make func(m *api.Module)
	want bool
}

// checkChanges checks what Check tells of changes of the full module.
func checkChanges(t *testing.T, l []change) {
	t.Helper()
	for _, c := range l {
		m := full()
		c.make(&m)
		checkIs(t, "the full module with "+c.what, m, errnoOf(c.want))
	}
}

// P12.1: what is not well-formed is ErrArg, even if something else is not valid.
func TestNotWellFormed(t *testing.T) {
	deep := code("br:499")
	for range api.MaxNest - 1 {
		deep = []api.Instr{{Op: 0x02, Body: deep}}
	}
	m := world(api.FuncType{}, nil, deep)
	checkIs(t, "the deepest function", m, api.OK)
	m.Funcs[0].Body = []api.Instr{{Op: 0x02, Body: deep}}
	checkIs(t, "a function too deep", m, api.ErrArg)
	for _, c := range []change{
		{what: "no count", make: func(m *api.Module) { m.Count, m.Funcs[0].Body = false, code("data.drop:9") }},
		{what: "an unknown instruction", make: func(m *api.Module) { m.Funcs[0].Body = []api.Instr{{Op: 0x0b}} }},
		{what: "a field that is unused", make: func(m *api.Module) { m.Funcs[0].Body = []api.Instr{{Op: 0x01, A: 1}} }},
		{what: "a negative index", make: func(m *api.Module) { m.Exports[0].Index = -1 }},
		{what: "a negative minimum", make: func(m *api.Module) { m.Mems[0].Min = -1 }},
		{what: "an unused maximum", make: func(m *api.Module) { m.Mems[0].Max = 1 }},
		{what: "a type of no values", make: func(m *api.Module) { m.Types[1].Params = []int{0} }},
		{what: "a name without UTF-8", make: func(m *api.Module) { m.Imports[0].Name = "\xff" }},
		{what: "too many locals", make: func(m *api.Module) { m.Funcs[0].Locals = slices.Repeat([]int{api.I32}, api.MaxLocals+1) }},
		{what: "an export of no kind", make: func(m *api.Module) { m.Exports[0].Kind = 4 }},
		{what: "a segment of no mode", make: func(m *api.Module) { m.Datas[0].Mode = api.Declared }},
		{what: "two types for a table", make: func(m *api.Module) { m.Imports[2].Global = api.GlobalType{Type: api.I32} }},
	} {
		m := full()
		c.make(&m)
		checkIs(t, "the full module with "+c.what, m, api.ErrArg)
		m.Start = 100
		checkIs(t, "the full module with "+c.what+" and a start that isn't there", m, api.ErrArg)
	}
	m = full()
	m.Start = -1
	checkIs(t, "a negative start", m, api.ErrArg)
}

// P12.1, condition 1: indices, each at its bound.
func TestIndices(t *testing.T) {
	far := 1<<32 - 1
	checkChanges(t, []change{
		{"an import of the last type", func(m *api.Module) { m.Imports = append(m.Imports, api.Import{Type: 7}) }, true},
		{"an import of no type", func(m *api.Module) { m.Imports = append(m.Imports, api.Import{Type: 8}) }, false},
		{"an import of no type, far off", func(m *api.Module) { m.Imports = append(m.Imports, api.Import{Type: far}) }, false},
		{"a function of the last type", func(m *api.Module) { m.Funcs = append(m.Funcs, api.Code{Type: 7}) }, true},
		{"a function of no type", func(m *api.Module) { m.Funcs = append(m.Funcs, api.Code{Type: 8}) }, false},
		{"a function of no type, far off", func(m *api.Module) { m.Funcs = append(m.Funcs, api.Code{Type: far}) }, false},
		{"an export of the last function", func(m *api.Module) { m.Exports[0].Index = 5 }, true},
		{"an export of no function", func(m *api.Module) { m.Exports[0].Index = 6 }, false},
		{"an export of no function, far off", func(m *api.Module) { m.Exports[0].Index = far }, false},
		{"an export of the last table", func(m *api.Module) { m.Exports[1].Index = 3 }, true},
		{"an export of no table", func(m *api.Module) { m.Exports[1].Index = 4 }, false},
		{"an export of no memory", func(m *api.Module) { m.Exports[2].Index = 1 }, false},
		{"an export of the last global", func(m *api.Module) { m.Exports[3].Index = 3 }, true},
		{"an export of no global", func(m *api.Module) { m.Exports[3].Index = 4 }, false},
		{"a segment for the last table", func(m *api.Module) {
			m.Elems[1].Mode, m.Elems[1].Table, m.Elems[1].Offset = api.Active, 3, code("i32.const")
		}, true},
		{"a segment for no table", func(m *api.Module) { m.Elems[0].Table = 4 }, false},
		{"a segment for no table, far off", func(m *api.Module) { m.Elems[0].Table = far }, false},
		{"a segment for no memory", func(m *api.Module) { m.Datas[1].Mem = 1 }, false},
		{"a segment for no memory, far off", func(m *api.Module) { m.Datas[1].Mem = far }, false},
		{"a start that is the last function but one", func(m *api.Module) { m.Start = 5 }, true},
		{"a start that is no function", func(m *api.Module) { m.Start = 7 }, false},
		{"a start that is no function, far off", func(m *api.Module) { m.Start = far + 1 }, false},
	})
	checkIs(t, "a segment for no memory at all", api.Module{Datas: []api.Data{{Offset: code("i32.const")}}}, api.ErrInvalid)
	checkIs(t, "a passive segment and no memory", api.Module{Datas: []api.Data{{Mode: api.Passive}}}, api.OK)
	checkIs(t, "a segment for an imported memory", api.Module{Imports: []api.Import{{Kind: api.Mem}}, Datas: []api.Data{{Offset: code("i32.const")}}}, api.OK)
	checkIs(t, "an export of an imported memory", api.Module{Imports: []api.Import{{Kind: api.Mem}}, Exports: []api.Export{{Kind: api.Mem}}}, api.OK)
	checkIs(t, "a table's import without types", api.Module{Imports: []api.Import{{Kind: api.Table, Table: api.TableType{Ref: api.FuncRef}}}}, api.OK)
}

// P12.1, condition 1: limits of memories and tables, their own ones and imported ones.
func TestLimits(t *testing.T) {
	for _, c := range []struct {
		l          api.Limits
		table, mem bool
	}{
		{api.Limits{}, true, true},
		{api.Limits{Min: 1}, true, true},
		{api.Limits{Min: 65536}, true, true},
		{api.Limits{Min: 65537}, true, false},
		{api.Limits{Min: 1<<32 - 1}, true, false},
		{limits(0, 0), true, true},
		{limits(1, 0), false, false},
		{limits(3, 2), false, false},
		{limits(3, 3), true, true},
		{limits(65536, 65536), true, true},
		{limits(65536, 65535), false, false},
		{limits(0, 65537), true, false},
		{limits(65537, 65537), true, false},
		{limits(65537, 65536), false, false},
		{limits(0, 1<<32-1), true, false},
		{limits(1<<32-1, 1<<32-1), true, false},
		{limits(1<<32-1, 1<<32-2), false, false},
	} {
		what := "limits from " + strconv.Itoa(c.l.Min) + " to " + strconv.Itoa(c.l.Max)
		for _, ref := range []int{api.FuncRef, api.ExternRef} {
			typ := api.TableType{Ref: ref, L: c.l}
			checkIs(t, "a table with "+what, api.Module{Tables: []api.TableType{{Ref: ref}, typ}}, errnoOf(c.table))
			checkIs(t, "an imported table with "+what, api.Module{Imports: []api.Import{{Kind: api.Table, Table: typ}}}, errnoOf(c.table))
		}
		checkIs(t, "a memory with "+what, api.Module{Mems: []api.Limits{c.l}}, errnoOf(c.mem))
		checkIs(t, "an imported memory with "+what, api.Module{Imports: []api.Import{{Kind: api.Mem, Mem: c.l}}}, errnoOf(c.mem))
	}
	mem := api.Import{Kind: api.Mem}
	checkIs(t, "two memories", api.Module{Mems: []api.Limits{{}, {}}}, api.ErrInvalid)
	checkIs(t, "two imported memories", api.Module{Imports: []api.Import{mem, mem}}, api.ErrInvalid)
	checkIs(t, "a memory and an imported one", api.Module{Imports: []api.Import{mem}, Mems: []api.Limits{{}}}, api.ErrInvalid)
	checkIs(t, "two tables", api.Module{Tables: []api.TableType{{Ref: api.FuncRef}, {Ref: api.FuncRef}}}, api.OK)
}

// within puts instructions where only constant ones may be, to leave a type.
func within(l []api.Instr, typ int) map[string]api.Module {
	global, init, other := full(), full(), full()
	global.Globals = append(global.Globals, api.Var{Type: api.GlobalType{Type: typ, Mut: true}, Init: l})
	out := map[string]api.Module{"global": global}
	if typ == api.FuncRef || typ == api.ExternRef {
		init.Elems = append(init.Elems, api.Elem{Ref: typ, Mode: api.Declared, Init: [][]api.Instr{{value(typ)}, l}})
		out["segment"] = init
		other.Elems = append(other.Elems, api.Elem{Ref: typ, Table: map[int]int{api.FuncRef: 1, api.ExternRef: 3}[typ], Offset: code("i32.const"), Init: [][]api.Instr{l, {value(typ)}}})
		out["active segment"] = other
	}
	if typ == api.I32 {
		init.Elems[0].Offset = l
		out["offset of references"] = init
		other.Datas[1].Offset = l
		out["offset of bytes"] = other
	}
	return out
}

// checkWithin checks instructions where only constant ones may be.
func checkWithin(t *testing.T, what string, l []api.Instr, typ int, want bool) {
	t.Helper()
	for place, m := range within(l, typ) {
		checkIs(t, what+" in a "+place, m, errnoOf(want))
	}
}

// P12.1, condition 3: what Init and Offset consist of, and what they leave.
func TestConstants(t *testing.T) {
	for _, typ := range valueTypes {
		for _, other := range valueTypes {
			checkWithin(t, "a value", values(other), typ, other == typ)
		}
		checkWithin(t, "nothing", nil, typ, false)
		checkWithin(t, "two values", values(typ, typ), typ, false)
		checkWithin(t, "a value and a nop", joined(values(typ), code("nop")), typ, false)
		checkWithin(t, "a value in a block", []api.Instr{{Op: 0x02, A: 1, B: typ, Body: values(typ)}}, typ, false)
		checkWithin(t, "unreachable", code("unreachable"), typ, false)
		checkWithin(t, "br", joined(values(typ), code("br:0")), typ, false)
		checkWithin(t, "return", joined(values(typ), code("return")), typ, false)
		checkWithin(t, "a value that is dropped", joined(values(typ, typ), code("drop")), typ, false)
	}
	checkWithin(t, "a function", code("ref.func:0"), api.FuncRef, true)
	// Also those that only this declares.
	checkWithin(t, "the last function", code("ref.func:5"), api.FuncRef, true)
	checkWithin(t, "no function", code("ref.func:6"), api.FuncRef, false)
	checkWithin(t, "no function, far off", code("ref.func:4294967295"), api.FuncRef, false)
	checkWithin(t, "a function", code("ref.func:0"), api.ExternRef, false)
	checkWithin(t, "a function", code("ref.func:0"), api.I32, false)
	checkWithin(t, "a null of functions", code("ref.null:func"), api.ExternRef, false)
	checkWithin(t, "an imported global", code("global.get:0"), api.I64, true)
	checkWithin(t, "an imported global of another type", code("global.get:0"), api.I32, false)
	checkWithin(t, "a mutable imported global", code("global.get:1"), api.F32, false)
	checkWithin(t, "a mutable global", code("global.get:2"), api.V128, false)
	checkWithin(t, "a global that is not imported", code("global.get:3"), api.FuncRef, false)
	checkWithin(t, "no global", code("global.get:5"), api.FuncRef, false)
	checkWithin(t, "no global, far off", code("global.get:4294967295"), api.I32, false)
	checkWithin(t, "a sum", code("i32.const i32.const i32.add"), api.I32, false)
	checkWithin(t, "a test of a null", code("ref.null:func ref.is_null"), api.I32, false)
}

// P12.1, condition 3: of all instructions that leave one type and take none, only a few are constant.
func TestConstantInstructions(t *testing.T) {
	constant := 0
	for _, op := range known {
		takes, leaves, fixed := ops.Sign(op)
		if !fixed || len(leaves) != 1 {
			continue
		}
		is := len(takes) == 0 && ops.Name(op) != "memory.size" && ops.Name(op) != "table.size"
		if is {
			constant++
		}
		checkWithin(t, ops.Name(op), joined(values(takes...), []api.Instr{sample(op)}), leaves[0], is)
	}
	if constant != 6 {
		t.Error("there are", constant, "constant instructions")
	}
}

// P12.1, condition 3: offsets with globals that are imported, the only ones that can be read.
func TestOffsetGlobals(t *testing.T) {
	for _, mut := range []bool{false, true} {
		m := full()
		m.Imports = append(m.Imports, api.Import{Kind: api.Global, Global: api.GlobalType{Type: api.I32, Mut: mut}})
		m.Datas[1].Offset = code("global.get:2")
		checkIs(t, "an offset of bytes that is an imported global", m, errnoOf(!mut))
		m.Datas[1].Offset, m.Elems[0].Offset = code("i32.const"), code("global.get:2")
		checkIs(t, "an offset of references that is an imported global", m, errnoOf(!mut))
		m.Elems[0].Offset = code("global.get:2 global.get:2")
		checkIs(t, "an offset that is two imported globals", m, api.ErrInvalid)
	}
}

// P12.1, condition 3: a segment and its table.
func TestSegments(t *testing.T) {
	tables := []int{api.ExternRef, api.FuncRef, api.FuncRef, api.ExternRef}
	for table, typ := range tables {
		for _, ref := range []int{api.FuncRef, api.ExternRef} {
			m := full()
			m.Elems = append(m.Elems, api.Elem{Ref: ref, Table: table, Offset: code("i32.const")})
			checkIs(t, "a segment for table "+strconv.Itoa(table), m, errnoOf(ref == typ))
		}
	}
	checkIs(t, "segments without a table", api.Module{Elems: []api.Elem{{Ref: api.FuncRef, Mode: api.Passive}, {Ref: api.ExternRef, Mode: api.Declared}}}, api.OK)
	checkIs(t, "an active segment without a table", api.Module{Elems: []api.Elem{{Ref: api.FuncRef, Offset: code("i32.const")}}}, api.ErrInvalid)
	checkChanges(t, []change{
		{"an offset of references that is missing", func(m *api.Module) { m.Elems[0].Offset = nil }, false},
		{"an offset of bytes that is missing", func(m *api.Module) { m.Datas[1].Offset = nil }, false},
		{"an offset of bytes that is an I64", func(m *api.Module) { m.Datas[1].Offset = code("global.get:0") }, false},
		{"a second value in a segment that is wrong", func(m *api.Module) { m.Elems[0].Init[1] = code("ref.null:extern") }, false},
	})
}

// P12.1, condition 4: the start function.
func TestStart(t *testing.T) {
	for start, is := range []bool{true, false, false, false, false, true, false} {
		m := full()
		m.Start = start
		checkIs(t, "the start "+strconv.Itoa(start), m, errnoOf(is))
	}
	for _, c := range []struct {
		f  api.FuncType
		is bool
	}{{api.FuncType{}, true}, {api.FuncType{Params: []int{api.I32}}, false}, {api.FuncType{Results: []int{api.I32}}, false}} {
		imported := api.Module{Types: []api.FuncType{c.f}, Imports: []api.Import{{}}, Start: 1}
		checkIs(t, "a start that is imported", imported, errnoOf(c.is))
		own := api.Module{Types: []api.FuncType{c.f}, Funcs: []api.Code{{Body: code("unreachable")}}, Start: 1}
		checkIs(t, "a start that is the module's own", own, errnoOf(c.is))
	}
	checkIs(t, "a start without functions", api.Module{Start: 1}, api.ErrInvalid)
}

// P12.1, condition 4: names of exports.
func TestExportNames(t *testing.T) {
	add := func(names ...string) func(m *api.Module) {
		return func(m *api.Module) {
			for _, name := range names {
				m.Exports = append(m.Exports, api.Export{Name: name, Kind: api.Global})
			}
		}
	}
	checkChanges(t, []change{
		{"more names", add("F", "", "ff", " f", "f\x00", "é", "e\u0301"), true},
		{"the name of another kind", add("f"), false},
		{"the name of the same kind", add("g"), false},
		{"the same name twice", add("x", "y", "x"), false},
		{"no name twice", add("", ""), false},
		{"no exports", func(m *api.Module) { m.Exports = nil }, true},
		{"imports of one name", func(m *api.Module) { m.Imports = append(m.Imports, m.Imports...) }, true},
	})
}

// P12.2: which functions are declared.
func TestDeclared(t *testing.T) {
	ref := func(more func(m *api.Module)) func(m *api.Module) {
		return func(m *api.Module) {
			m.Funcs[0].Body = code("ref.func:4 drop i64.const")
			more(m)
		}
	}
	checkChanges(t, []change{
		{"a function that is not declared", ref(func(m *api.Module) {}), false},
		{"an export of it", ref(func(m *api.Module) { m.Exports = append(m.Exports, api.Export{Name: "x", Index: 4}) }), true},
		{"an export of another kind", ref(func(m *api.Module) {
			m.Tables = append(m.Tables, m.Tables[0])
			m.Exports = append(m.Exports, api.Export{Name: "x", Kind: api.Table, Index: 4})
		}), false},
		{"an export of another kind with the index of a global", ref(func(m *api.Module) {
			m.Globals = append(m.Globals, m.Globals[0])
			m.Exports = append(m.Exports, api.Export{Name: "x", Kind: api.Global, Index: 4})
		}), false},
		{"a start", ref(func(m *api.Module) { m.Start = 5 }), false},
		{"a call", ref(func(m *api.Module) { m.Funcs[3].Body = code("call:4") }), false},
		{"a ref.func in a function", ref(func(m *api.Module) { m.Funcs[3].Body = code("ref.func:4 drop") }), false},
		{"a global", ref(func(m *api.Module) {
			m.Globals = append(m.Globals, api.Var{Type: api.GlobalType{Type: api.FuncRef}, Init: code("ref.func:4")})
		}), true},
		{"a passive segment", ref(func(m *api.Module) {
			m.Elems = append(m.Elems, api.Elem{Ref: api.FuncRef, Mode: api.Passive, Init: [][]api.Instr{code("ref.null:func"), code("ref.func:4")}})
		}), true},
		{"a declared segment", ref(func(m *api.Module) {
			m.Elems = append(m.Elems, api.Elem{Ref: api.FuncRef, Mode: api.Declared, Init: [][]api.Instr{code("ref.func:4")}})
		}), true},
		{"an active segment", ref(func(m *api.Module) { m.Elems[0].Init = append(m.Elems[0].Init, code("ref.func:4")) }), true},
		{"a data segment's offset", ref(func(m *api.Module) { m.Datas[1].Offset = code("ref.func:4") }), false},
		{"itself", func(m *api.Module) { m.Funcs[0].Body = code("ref.func:1 drop i64.const") }, false},
		{"an import that is not declared", func(m *api.Module) { m.Exports = m.Exports[1:]; m.Funcs[0].Body = code("ref.func:0 drop i64.const") }, false},
	})
}

// P12.1, condition 2: locals are the parameters and then Locals; each function has its own.
func TestManyLocals(t *testing.T) {
	f := api.FuncType{Params: make([]int, 1000)}
	locals := make([]int, api.MaxLocals)
	for i := range f.Params {
		f.Params[i] = valueTypes[i%7]
	}
	for i := range locals {
		locals[i] = valueTypes[(i+3)%7]
	}
	for _, i := range []int{0, 6, 999, 1000, 1001, 50000, 50999} {
		typ := valueTypes[i%7]
		if i >= 1000 {
			typ = valueTypes[(i-1000+3)%7]
		}
		for _, result := range valueTypes {
			f.Results = []int{result}
			checkIs(t, "local "+strconv.Itoa(i), world(f, locals, []api.Instr{{Op: 0x20, A: i}}), errnoOf(result == typ))
		}
	}
	f.Results = nil
	checkIs(t, "no local", world(f, locals, code("unreachable local.get:51000 unreachable")), api.ErrInvalid)
	m := full()
	m.Funcs[3].Body = code("local.get:0 drop")
	checkIs(t, "another function's local", m, api.ErrInvalid)
	m = full()
	m.Funcs[4].Body = code("i64.const br:1")
	checkIs(t, "a label that there isn't in the last function", m, api.ErrInvalid)
	for i := range m.Funcs {
		m = full()
		m.Funcs[i].Body = code("i32.add")
		checkIs(t, "a wrong function "+strconv.Itoa(i), m, api.ErrInvalid)
	}
}
