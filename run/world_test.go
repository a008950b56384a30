package run_test

import (
	"slices"
	"strconv"
	"testing"

	"bodkin/api"
	"bodkin/run"
	"bodkin/store"
	"bodkin/valid"
)

// moreTypes are those of world behind the tested function's own, from 1 on.
var moreTypes = []string{
	"->", "i32 ->", "-> i32", "i32 -> i32", "i64 i32 -> i32 i64",
	"i32 f32 f64 i64 v128 func extern -> extern func v128 i64 f64 f32 i32",
	"i32 i64 func extern -> i64 i64 func extern f32 v128",
}

// moreFuncs are the functions of world behind the tested one, from 3 on, with their types.
var moreFuncs = []struct {
	typ  int
	body string
}{
	{1, "nop"},
	{4, "local.get:0 i32.const:1 i32.add"},
	{5, "local.get:1 local.get:0"},
	{6, "local.get:6 local.get:5 local.get:4 local.get:3 local.get:2 local.get:1 local.get:0"},
	{4, "local.get:0 if:i32 local.get:0 i32.const:-1 i32.add call:7 i32.const:1 i32.add else i32.const:0 end"},
	{1, "call:8"},
	{3, "unreachable"},
	{1, "loop br:0 end"},
	{3, "i32.const:5 br:0"},
	{3, "i64.const:7 i32.const:6 return"},
}

// tested is the index of the tested function of world.
const tested = 2

// world is a module with a function to be tested, and something of each kind around it. The functions 0 and 1 are the host's.
func world(text, body string) api.Module {
	f, locals := signature(text)
	m := api.Module{Types: []api.FuncType{f}, Count: true}
	for _, more := range moreTypes {
		f, _ := signature(more)
		m.Types = append(m.Types, f)
	}
	m.Imports = []api.Import{
		{Kind: api.Global, Global: api.GlobalType{Type: api.I32}},
		{Kind: api.Func, Type: 7},
		{Kind: api.Table, Table: api.TableType{Ref: api.ExternRef, L: api.Limits{Min: 4, Max: 6, Has: true}}},
		{Kind: api.Func, Type: 1},
		{Kind: api.Global, Global: api.GlobalType{Type: api.I64, Mut: true}},
	}
	m.Funcs = []api.Code{{Locals: locals, Body: code(body)}}
	for _, more := range moreFuncs {
		m.Funcs = append(m.Funcs, api.Code{Type: more.typ, Body: code(more.body)})
	}
	for i := range 2 + len(m.Funcs) {
		m.Exports = append(m.Exports, api.Export{Name: strconv.Itoa(i), Index: i})
	}
	m.Tables = []api.TableType{{Ref: api.FuncRef, L: api.Limits{Min: 8, Max: 12, Has: true}}, {Ref: api.ExternRef}, {Ref: api.FuncRef}}
	m.Mems = []api.Limits{{Min: 1, Max: 3, Has: true}}
	for _, typ := range valueTypes {
		m.Globals = append(m.Globals, api.Var{Type: api.GlobalType{Type: typ, Mut: true}, Init: zero(typ)})
	}
	function := func(i int) []api.Instr { return []api.Instr{{Op: 0xd2, A: i}} }
	null := code("ref.null:func")
	m.Elems = []api.Elem{
		{Ref: api.FuncRef, Mode: api.Passive, Init: [][]api.Instr{function(4), null, function(1)}},
		{Ref: api.ExternRef, Mode: api.Passive, Init: [][]api.Instr{code("ref.null:extern"), code("ref.null:extern")}},
		{Ref: api.FuncRef, Mode: api.Declared, Init: [][]api.Instr{function(2)}},
		{Ref: api.FuncRef, Mode: api.Active, Table: 1, Offset: code("i32.const:0"), Init: [][]api.Instr{null, function(3), function(4), function(5), function(1), function(8), function(9), null}},
	}
	m.Datas = []api.Data{
		{Mode: api.Passive, Bytes: []byte("abcdefgh")},
		{Mode: api.Passive},
		{Mode: api.Active, Offset: code("i32.const:16"), Bytes: slices.Clone(pattern)},
	}
	return m
}

// pattern is what is in the memory of world at 16: numbers that are negative, and then others.
var pattern = []byte{0x81, 0x82, 0x83, 0x84, 0x85, 0x86, 0x87, 0x88, 9, 10, 11, 12, 13, 14, 15, 16}

// zero is an instruction that leaves a value of a type.
func zero(typ int) []api.Instr {
	names := map[int]string{api.I32: "i32.const", api.I64: "i64.const", api.F32: "f32.const", api.F64: "f64.const", api.V128: "v128.const", api.FuncRef: "ref.null:func", api.ExternRef: "ref.null:extern"}
	return code(names[typ])
}

// addresses are those of n objects that come behind others in a list, in another order than their indices.
func addresses(n, others int) []int {
	var out []int
	for i := range n {
		out = append(out, others+n-1-i)
	}
	return out
}

// placed are objects at addresses, with one of nobody's ahead.
func placed[T any](other T, l []T, addr []int) []T {
	out := slices.Repeat([]T{other}, 1+len(l))
	for i, x := range l {
		out[addr[i]] = x
	}
	return out
}

// newStore is a store with an instance of world, and others' objects around its own. The addresses of functions are those in the instance's list.
func newStore(m api.Module) (*store.Store, *store.Inst) {
	count := 2 + len(m.Funcs)
	inst := &store.Inst{Module: m, Funcs: addresses(count, 1), Tables: addresses(4, 1), Mems: addresses(1, 1), Globals: addresses(9, 1), Elems: addresses(4, 1), Datas: addresses(3, 1)}
	funcs := []store.Func{{Type: m.Types[7], Host: 4}, {Type: m.Types[1], Host: 1}}
	for i, c := range m.Funcs {
		funcs = append(funcs, store.Func{Type: m.Types[c.Type], Inst: 1, Code: i})
	}
	function := func(i int) api.Value { return api.Value{Type: api.FuncRef, Lo: uint64(inst.Funcs[i])} }
	null, none := store.Zero(api.FuncRef), store.Zero(api.ExternRef)
	tables := []*store.Table{
		{Type: m.Imports[2].Table, L: valuesOf("extern:0 extern:null extern:77 extern:0xffffffffffffffff")},
		{Type: m.Tables[0], L: []api.Value{null, function(3), function(4), function(5), function(1), function(8), function(9), null}},
		{Type: m.Tables[1]},
		{Type: m.Tables[2]},
	}
	mem := &store.Mem{L: m.Mems[0], B: make([]byte, api.PageSize)}
	copy(mem.B[16:], pattern)
	copy(mem.B[api.PageSize-8:], "stuvwxyz")
	globals := []*store.Global{{Type: m.Imports[0].Global, V: valuesOf("i32:41")[0]}, {Type: m.Imports[4].Global, V: valuesOf("i64:-42")[0]}}
	for i, v := range valuesOf("i32:-2 i64:3 f32:0x7f800001 f64:5 v128:6,7 func:1 extern:8") {
		globals = append(globals, &store.Global{Type: m.Globals[i].Type, V: v})
	}
	s := &store.Store{
		Funcs:   placed(store.Func{Type: m.Types[2], Host: 9}, funcs, inst.Funcs),
		Tables:  placed(&store.Table{Type: api.TableType{Ref: api.FuncRef}, L: []api.Value{null}}, tables, inst.Tables),
		Mems:    placed(&store.Mem{B: []byte{}}, []*store.Mem{mem}, inst.Mems),
		Globals: placed(&store.Global{V: valuesOf("i32:1")[0], Type: api.GlobalType{Type: api.I32}}, globals, inst.Globals),
		Elems:   placed([]api.Value{null}, [][]api.Value{{function(4), null, function(1)}, {none, none}, nil, nil}, inst.Elems),
		Datas:   placed([]byte("other"), [][]byte{[]byte("abcdefgh"), {}, nil}, inst.Datas),
		Insts:   []*store.Inst{{}, inst},
	}
	return s, inst
}

// cloned is a store in new memory, but for its modules, which nothing changes.
func cloned(s *store.Store) *store.Store {
	out := &store.Store{Funcs: slices.Clone(s.Funcs), Insts: slices.Clone(s.Insts)}
	for _, t := range s.Tables {
		out.Tables = append(out.Tables, &store.Table{Type: t.Type, L: slices.Clone(t.L)})
	}
	for _, m := range s.Mems {
		out.Mems = append(out.Mems, &store.Mem{L: m.L, B: slices.Clone(m.B)})
	}
	for _, g := range s.Globals {
		out.Globals = append(out.Globals, &store.Global{Type: g.Type, V: g.V})
	}
	for _, l := range s.Elems {
		out.Elems = append(out.Elems, slices.Clone(l))
	}
	for _, b := range s.Datas {
		out.Datas = append(out.Datas, slices.Clone(b))
	}
	for _, c := range s.Log {
		out.Log = append(out.Log, store.Call{Host: c.Host, Args: slices.Clone(c.Args)})
	}
	return out
}

// difference tells in what two stores are not the same; nothing if they are.
func difference(a, b *store.Store) string {
	switch {
	case len(a.Funcs) != len(b.Funcs) || !slices.Equal(a.Insts, b.Insts):
		return "functions or instances"
	case !slices.EqualFunc(a.Tables, b.Tables, func(x, y *store.Table) bool { return x.Type == y.Type && slices.Equal(x.L, y.L) }):
		return "tables"
	case !slices.EqualFunc(a.Mems, b.Mems, func(x, y *store.Mem) bool { return x.L == y.L && slices.Equal(x.B, y.B) }):
		return "memories"
	case !slices.EqualFunc(a.Globals, b.Globals, func(x, y *store.Global) bool { return *x == *y }):
		return "globals"
	case !slices.EqualFunc(a.Elems, b.Elems, slices.Equal[[]api.Value]):
		return "segments of references"
	case !slices.EqualFunc(a.Datas, b.Datas, slices.Equal[[]byte]):
		return "segments of bytes"
	case !slices.EqualFunc(a.Log, b.Log, func(x, y store.Call) bool { return x.Host == y.Host && slices.Equal(x.Args, y.Args) }):
		return "logs"
	}
	return ""
}

// outcome is what Invoke gives.
type outcome struct {
	out   []api.Value
	steps int
	e     api.Errno
}

func invoke(s *store.Store, f int, args []api.Value, l run.Limits) outcome {
	out, steps, e := run.Invoke(s, f, args, l)
	return outcome{out, steps, e}
}

func (x outcome) same(y outcome) bool {
	return slices.Equal(x.out, y.out) && x.steps == y.steps && x.e == y.e
}

// built makes sure that a module is valid, and makes a store of it.
func built(t *testing.T, m api.Module) (*store.Store, *store.Inst) {
	t.Helper()
	if e := valid.Check(m); e != api.OK {
		t.Fatal("not valid:", int(e), tell(m.Funcs[0].Body))
	}
	return newStore(m)
}
