package inst_test

import (
	"slices"
	"testing"

	"bodkin/api"
	"bodkin/inst"
	"bodkin/run"
	"bodkin/shape"
	"bodkin/store"
	"bodkin/valid"
)

// usual are limits that most of the tests' modules do not reach.
var usual = run.Limits{Fuel: 1000, Depth: 10, Pages: 4}

// The types of the functions of world.
var worldTypes = []string{"->", "i32 -> i32", "-> i32", "i32 i64 -> f32 v128", "i32 i64 f32 ->", "-> i32 i64 f32"}

// world is a sound store with some objects of each kind. All functions are the host's.
func world() *store.Store {
	s := &store.Store{
		Tables: []*store.Table{
			{Type: tableType("func 2-5"), L: values("func:null func:1 func:3")},
			{Type: tableType("extern 0"), L: values("extern:5 extern:null")},
			{Type: tableType("func 4"), L: values("func:null func:null func:null func:null")},
			{Type: tableType("extern 1-1"), L: values("extern:9")},
		},
		Mems: []*store.Mem{
			{L: limits("1-3"), B: make([]byte, 2*api.PageSize)},
			{L: limits("0"), B: make([]byte, api.PageSize)},
			{L: limits("0-0")},
		},
		Elems: [][]api.Value{values("func:2"), nil},
		Datas: [][]byte{[]byte("other"), nil, nil},
		Insts: []*store.Inst{{}, {Exports: []store.Export{{Name: "other", Kind: api.Table, Addr: 1}}}},
		Log:   []store.Call{{Host: 77, Args: values("i32:1")}},
	}
	for i, t := range worldTypes {
		s.Funcs = append(s.Funcs, store.Func{Type: funcType(t), Host: 10 + i})
	}
	for _, v := range values("i32:41 i64:-42 f32:0x7f800001 f64:5 v128:6,7 func:1 func:null extern:8 extern:null") {
		s.Globals = append(s.Globals, &store.Global{Type: api.GlobalType{Type: v.Type}, V: v}, &store.Global{Type: api.GlobalType{Type: v.Type, Mut: true}, V: v})
	}
	return s
}

// clonedType is a function's type in new memory.
func clonedType(f api.FuncType) api.FuncType {
	return api.FuncType{Params: slices.Clone(f.Params), Results: slices.Clone(f.Results)}
}

// cloned is a store in new memory.
func cloned(s *store.Store) *store.Store {
	out := &store.Store{}
	for _, f := range s.Funcs {
		f.Type = clonedType(f.Type)
		out.Funcs = append(out.Funcs, f)
	}
	for _, t := range s.Tables {
		out.Tables = append(out.Tables, &store.Table{Type: t.Type, L: slices.Clone(t.L)})
	}
	for _, m := range s.Mems {
		out.Mems = append(out.Mems, &store.Mem{L: m.L, B: slices.Clone(m.B)})
	}
	for _, g := range s.Globals {
		out.Globals = append(out.Globals, &store.Global{Type: g.Type, V: g.V})
	}
	for _, l := range s.Elems {
		out.Elems = append(out.Elems, slices.Clone(l))
	}
	for _, b := range s.Datas {
		out.Datas = append(out.Datas, slices.Clone(b))
	}
	for _, x := range s.Insts {
		out.Insts = append(out.Insts, clonedInst(x))
	}
	for _, c := range s.Log {
		out.Log = append(out.Log, store.Call{Host: c.Host, Args: slices.Clone(c.Args)})
	}
	return out
}

// clonedInst is an instance in new memory.
func clonedInst(x *store.Inst) *store.Inst {
	return &store.Inst{
		Module: shape.Copy(x.Module), Funcs: slices.Clone(x.Funcs), Tables: slices.Clone(x.Tables), Mems: slices.Clone(x.Mems),
		Globals: slices.Clone(x.Globals), Elems: slices.Clone(x.Elems), Datas: slices.Clone(x.Datas), Exports: slices.Clone(x.Exports),
	}
}

// difference tells in what two stores are not the same; nothing if they are.
func difference(a, b *store.Store) string {
	switch {
	case !slices.EqualFunc(a.Funcs, b.Funcs, sameFunc):
		return "functions"
	case !slices.EqualFunc(a.Tables, b.Tables, func(x, y *store.Table) bool { return x.Type == y.Type && slices.Equal(x.L, y.L) }):
		return "tables"
	case !slices.EqualFunc(a.Mems, b.Mems, func(x, y *store.Mem) bool { return x.L == y.L && slices.Equal(x.B, y.B) }):
		return "memories"
	case !slices.EqualFunc(a.Globals, b.Globals, func(x, y *store.Global) bool { return *x == *y }):
		return "globals"
	case !slices.EqualFunc(a.Elems, b.Elems, slices.Equal[[]api.Value]):
		return "segments of references"
	case !slices.EqualFunc(a.Datas, b.Datas, slices.Equal[[]byte]):
		return "segments of bytes"
	case !slices.EqualFunc(a.Insts, b.Insts, sameInst):
		return "instances"
	case !slices.EqualFunc(a.Log, b.Log, func(x, y store.Call) bool { return x.Host == y.Host && slices.Equal(x.Args, y.Args) }):
		return "logs"
	}
	return ""
}

func sameType(x, y api.FuncType) bool {
	return slices.Equal(x.Params, y.Params) && slices.Equal(x.Results, y.Results)
}

func sameFunc(x, y store.Func) bool {
	return sameType(x.Type, y.Type) && x.Inst == y.Inst && x.Code == y.Code && x.Host == y.Host
}

func sameInst(x, y *store.Inst) bool {
	return shape.Same(x.Module, y.Module) && slices.Equal(x.Funcs, y.Funcs) && slices.Equal(x.Tables, y.Tables) && slices.Equal(x.Mems, y.Mems) &&
		slices.Equal(x.Globals, y.Globals) && slices.Equal(x.Elems, y.Elems) && slices.Equal(x.Datas, y.Datas) && slices.Equal(x.Exports, y.Exports)
}

// outcome is what Instantiate gives.
type outcome struct {
	number, steps int
	e             api.Errno
}

func instantiate(s *store.Store, m api.Module, given []inst.Extern, l run.Limits) outcome {
	number, steps, e := inst.Instantiate(s, m, given, l)
	return outcome{number, steps, e}
}

// placed instantiates a module that is valid, and makes sure of the outcome.
func placed(t *testing.T, s *store.Store, m api.Module, given []inst.Extern, l run.Limits, want outcome) {
	t.Helper()
	if e := valid.Check(m); e != api.OK {
		t.Fatal("the module is not valid:", int(e))
	}
	if got := instantiate(s, m, given, l); got != want {
		t.Fatal("it is", got, "and not", want)
	}
	checkSound(t, s)
}
