package run_test

import (
	"math"
	"slices"
	"testing"

	"bodkin/api"
	"bodkin/run"
	"bodkin/store"
)

// P15.1: which values fit which types, in a store with three functions.
func TestFits(t *testing.T) {
	s := &store.Store{Funcs: make([]store.Func, 3)}
	null := func(typ int, lo, hi uint64) api.Value { return api.Value{Type: typ, Lo: lo, Hi: hi, Null: true} }
	full := func(typ int, lo, hi uint64) api.Value { return api.Value{Type: typ, Lo: lo, Hi: hi} }
	var good, bad []api.Value
	for _, typ := range valueTypes {
		most := uint64(math.MaxUint64)
		switch typ {
		case api.I32, api.F32:
			most = math.MaxUint32
			bad = append(bad, full(typ, 1<<32, 0), full(typ, math.MaxUint64, 0), full(typ, 1<<63, 0))
		case api.FuncRef:
			most = 2
			bad = append(bad, full(typ, 3, 0), full(typ, 4, 0), full(typ, 1<<32, 0), full(typ, 1<<63, 0), full(typ, math.MaxUint64, 0))
		}
		good = append(good, full(typ, 0, 0), full(typ, 1, 0), full(typ, most, 0))
		if typ == api.V128 {
			good = append(good, full(typ, 0, 1), full(typ, most, math.MaxUint64))
		} else {
			bad = append(bad, full(typ, 0, 1), full(typ, 1, 1<<63))
		}
		if typ == api.FuncRef || typ == api.ExternRef {
			good = append(good, null(typ, 0, 0))
		} else {
			bad = append(bad, null(typ, 0, 0))
		}
		bad = append(bad, null(typ, 1, 0), null(typ, 0, 1), null(typ, most, most))
	}
	for _, typ := range valueTypes {
		for _, v := range good {
			if got := run.Fits(s, v, typ); got != (v.Type == typ) {
				t.Error(v, "as", typ, "is", got)
			}
			if run.Fits(nil, v, typ) {
				t.Error(v, "fits without a store")
			}
		}
		for _, v := range bad {
			if run.Fits(s, v, typ) {
				t.Error(v, "fits", typ)
			}
		}
	}
	for _, typ := range []int{0, 1, -1, 0x40, 0x6e, 0x71, 0x7a, 0x80, 0xff, 0x7f + 256, math.MinInt, math.MaxInt} {
		for _, v := range []api.Value{full(typ, 0, 0), null(typ, 0, 0), full(typ, 1, 0)} {
			if run.Fits(s, v, typ) || run.Fits(s, v, api.I32) || run.Fits(s, full(api.I32, 0, 0), typ) {
				t.Error(v, "fits")
			}
		}
	}
	if empty := new(store.Store); run.Fits(empty, full(api.FuncRef, 0, 0), api.FuncRef) || !run.Fits(empty, null(api.FuncRef, 0, 0), api.FuncRef) || !run.Fits(empty, full(api.I32, 5, 0), api.I32) {
		t.Error("what fits without functions")
	}
}

// P15.1: wrong arguments, in the order of their errors, change nothing.
func TestInvokeErrors(t *testing.T) {
	s, inst := built(t, world("i32 func ->", "i32.const:1 global.set:2"))
	f := inst.Funcs[tested]
	good := valuesOf("i32:1 func:2")
	before := cloned(s)
	for _, c := range []struct {
		what string
		s    *store.Store
		f    int
		args []api.Value
		l    run.Limits
		want api.Errno
	}{
		{"no store", nil, f, good, usual, api.ErrArg},
		{"an empty store", new(store.Store), 0, nil, usual, api.ErrArg},
		{"no function", s, -1, good, usual, api.ErrArg},
		{"no function", s, len(s.Funcs), good, usual, api.ErrArg},
		{"no function", s, math.MaxInt, good, usual, api.ErrArg},
		{"no function", s, math.MinInt, good, usual, api.ErrArg},
		{"fuel", s, f, good, run.Limits{Fuel: -1, Depth: 1, Pages: 1}, api.ErrArg},
		{"depth", s, f, good, run.Limits{Fuel: 1, Depth: -1, Pages: 1}, api.ErrArg},
		{"pages", s, f, good, run.Limits{Fuel: 1, Depth: 1, Pages: -1}, api.ErrArg},
		{"pages", s, f, good, run.Limits{Fuel: 1, Depth: 1, Pages: math.MinInt}, api.ErrArg},
		{"fuel and arguments", s, f, nil, run.Limits{Fuel: -1}, api.ErrArg},
		{"no function and arguments", s, len(s.Funcs), nil, usual, api.ErrArg},
		{"pages and the host", s, inst.Funcs[1], nil, run.Limits{Pages: -1}, api.ErrArg},
		{"no arguments", s, f, nil, usual, api.ErrType},
		{"too few", s, f, good[:1], usual, api.ErrType},
		{"too many", s, f, append(slices.Clone(good), good[0]), usual, api.ErrType},
		{"another order", s, f, []api.Value{good[1], good[0]}, usual, api.ErrType},
		{"another type", s, f, valuesOf("i64:1 func:2"), usual, api.ErrType},
		{"another type", s, f, valuesOf("i32:1 extern:2"), usual, api.ErrType},
		{"no address", s, f, valuesOf("i32:1 func:14"), usual, api.ErrType},
		{"not normalized", s, f, []api.Value{{Type: api.I32, Lo: 1 << 32}, good[1]}, usual, api.ErrType},
		{"not normalized", s, f, []api.Value{{Type: api.I32, Null: true}, good[1]}, usual, api.ErrType},
		{"not normalized", s, f, []api.Value{good[0], {Type: api.FuncRef, Hi: 1}}, usual, api.ErrType},
		{"not normalized", s, f, []api.Value{good[0], {Type: api.FuncRef, Lo: 1, Null: true}}, usual, api.ErrType},
		{"types ahead of the limits", s, f, nil, run.Limits{}, api.ErrType},
		{"arguments of the host", s, inst.Funcs[1], good, usual, api.ErrType},
		{"arguments of the host", s, inst.Funcs[0], good, usual, api.ErrType},
		{"too deep", s, f, good, run.Limits{Fuel: 9}, api.ErrDepth},
		{"no fuel", s, f, good, run.Limits{Depth: 1}, api.ErrFuel},
	} {
		got := invoke(c.s, c.f, c.args, c.l)
		if !got.same(outcome{nil, 0, c.want}) || got.out != nil {
			t.Error(c.what, "is", got, "and not", int(c.want))
		}
	}
	if d := difference(s, before); d != "" {
		t.Error("errors change", d)
	}
	if got := invoke(s, f, good, run.Limits{Fuel: 2, Depth: 1}); !got.same(outcome{nil, 2, 0}) || s.Globals[inst.Globals[2]].V.Lo != 1 {
		t.Error("without errors it is", got)
	}
}

// P15.1: arguments are neither changed nor kept, and results share no memory with anything.
func TestNewMemory(t *testing.T) {
	s, inst := built(t, world("i32 extern -> i32 extern", "i32.const:7 local.tee:0 local.get:1 local.get:1 global.set:8 i32.const:1 local.get:1 table.set:0"))
	args := append(valuesOf("i32:5 extern:6"), valuesOf("i32:99 i32:98 i32:97")...)
	a := invoke(s, inst.Funcs[tested], args[:2], usual)
	if !a.same(outcome{valuesOf("i32:7 extern:6"), 8, 0}) {
		t.Error("it is", a)
	}
	if !slices.Equal(args, valuesOf("i32:5 extern:6 i32:99 i32:98 i32:97")) {
		t.Error("the arguments are", args)
	}
	before := cloned(s)
	clear(args)
	all := a.out[:cap(a.out)]
	clear(all)
	if d := difference(s, before); d != "" {
		t.Error("the results or the arguments share memory with", d)
	}
	b := invoke(s, inst.Funcs[tested], valuesOf("i32:5 extern:6"), usual)
	if !b.same(outcome{valuesOf("i32:7 extern:6"), 8, 0}) || len(a.out) != 2 || a.out[0] != (api.Value{}) {
		t.Error("a second time it is", b, "and the first one", a)
	}
}

// P15.1: the module, which is a part of the store, is not changed, and neither is what lies behind the ends of its lists.
func TestModuleStays(t *testing.T) {
	m := world("->", "i32.const:0 br_table:0,0,0")
	s, inst := built(t, m)
	funcs := append(slices.Clone(m.Funcs), api.Code{Type: 77})
	inst.Module.Funcs = funcs[:len(m.Funcs)]
	labels := []int{0, 0, -5}
	inst.Module.Funcs[0].Body[1].L = labels[:2]
	if got := invoke(s, inst.Funcs[tested], nil, usual); !got.same(outcome{nil, 2, 0}) {
		t.Error("it is", got)
	}
	for i, c := range m.Funcs {
		if i > 0 && (inst.Module.Funcs[i].Type != c.Type || tell(inst.Module.Funcs[i].Body) != tell(c.Body)) {
			t.Error("function", i, "is", inst.Module.Funcs[i])
		}
	}
	if funcs[len(m.Funcs)].Type != 77 || labels[2] != -5 {
		t.Error("behind the ends there are", funcs[len(m.Funcs)], labels)
	}
}

// P15.3: functions of several instances, each with its own objects.
func TestInstances(t *testing.T) {
	m := api.Module{
		Types:   []api.FuncType{{Results: []int{api.I32}}},
		Imports: []api.Import{{Kind: api.Func}},
		Funcs:   []api.Code{{Body: code("i32.const:0 i32.load8_u:0,0 global.get:0 i32.add")}, {Body: code("call:1 i32.const:10 i32.mul call:0 i32.add global.get:0 i32.sub")}},
		Mems:    []api.Limits{{Min: 1}},
		Globals: []api.Var{{Type: api.GlobalType{Type: api.I32}, Init: zero(api.I32)}},
	}
	// The second instance imports what the first one has as its first function, the first one a function of the host.
	s := &store.Store{Funcs: []store.Func{{Type: m.Types[0], Host: 1}, {Type: m.Types[0]}, {Type: m.Types[0], Code: 1}, {Type: m.Types[0], Inst: 1}, {Type: m.Types[0], Inst: 1, Code: 1}}}
	for i, first := range []byte{3, 5} {
		s.Mems = append(s.Mems, &store.Mem{B: append([]byte{first}, make([]byte, api.PageSize-1)...)})
		s.Globals = append(s.Globals, &store.Global{Type: m.Globals[0].Type, V: api.Value{Type: api.I32, Lo: uint64(100 * (i + 1))}})
	}
	s.Insts = []*store.Inst{{Module: m, Funcs: []int{0, 1, 2}, Mems: []int{0}, Globals: []int{0}}, {Module: m, Funcs: []int{1, 3, 4}, Mems: []int{1}, Globals: []int{1}}}
	for _, c := range []struct{ f, want, steps int }{{1, 103, 4}, {2, 10*103 - 100, 11}, {3, 205, 4}, {4, 10*205 + 103 - 200, 15}} {
		got := invoke(s, c.f, nil, usual)
		if !got.same(outcome{[]api.Value{{Type: api.I32, Lo: uint64(c.want)}}, c.steps, 0}) {
			t.Error("function", c.f, "is", got)
		}
	}
}
