package inst_test

import (
	"math"
	"slices"
	"testing"

	"bodkin/api"
	"bodkin/inst"
	"bodkin/run"
	"bodkin/store"
)

// P16.1: Host puts a function behind the others, with a number that is neither negative nor too great.
func TestHost(t *testing.T) {
	for _, c := range []struct{ number, want int }{
		{0, 0}, {1, 1}, {2, 2}, {77, 77}, {1<<30 - 1, 1<<30 - 1}, {1 << 30, 1 << 30}, {1<<30 + 1, 1 << 30}, {1 << 31, 1 << 30}, {1 << 32, 1 << 30}, {1 << 62, 1 << 30},
		{math.MaxInt, 1 << 30}, {-1, 0}, {-2, 0}, {-1 << 31, 0}, {math.MinInt, 0},
	} {
		s, want := world(), world()
		typ := funcType("i32 func -> i64 extern")
		want.Funcs = append(want.Funcs, store.Func{Type: funcType("i32 func -> i64 extern"), Host: c.want + 1})
		addr := inst.Host(s, typ, c.number)
		if d := difference(s, want); d != "" || addr != len(worldTypes) {
			t.Error("with the number", c.number, "the address is", addr, "and there is a difference in", d, s.Funcs)
		}
		// The type is the caller's.
		typ.Params[0], typ.Results[1] = api.F32, api.F64
		if d := difference(s, want); d != "" {
			t.Error("the type is kept in", d)
		}
		s.Funcs[addr].Type.Params[1] = api.V128
		if !slices.Equal(typ.Params, []int{api.F32, api.FuncRef}) {
			t.Error("the type is changed", typ)
		}
	}
	if inst.Host(nil, funcType("i32 ->"), 5) != 0 {
		t.Error("without a store there is an address")
	}
}

// P16.1: several functions of the host, one behind another, which can be called.
func TestHosts(t *testing.T) {
	s := &store.Store{}
	for i := range 300 {
		if addr := inst.Host(s, funcType("i32 -> i64"), 1000-i); addr != i {
			t.Error("the address is", addr, "and not", i)
		}
	}
	out, steps, e := run.Invoke(s, 7, values("i32:5"), usual)
	if !slices.Equal(out, values("i64:0")) || steps != 0 || e != api.OK {
		t.Error("a call leaves", out, steps, int(e))
	}
	if len(s.Log) != 1 || s.Log[0].Host != 993 || !slices.Equal(s.Log[0].Args, values("i32:5")) {
		t.Error("the log is", s.Log)
	}
}

// P16.1: Find gives what an instance gives by a name.
func TestFind(t *testing.T) {
	exports := []store.Export{{Name: "f", Addr: 3}, {Name: "", Kind: api.Table, Addr: 2}, {Name: "F", Kind: api.Mem}, {Name: "f ", Kind: api.Global, Addr: 9}, {Name: "\x00", Addr: 1}, {Name: "é", Kind: api.Table}}
	s := world()
	s.Insts = append(s.Insts, &store.Inst{Exports: exports}, nil, &store.Inst{Exports: []store.Export{{Name: "f", Addr: 5}}})
	before := cloned(&store.Store{Funcs: s.Funcs, Insts: s.Insts[:3]})
	for _, e := range exports {
		if x, ok := inst.Find(s, 2, e.Name); x != (inst.Extern{Kind: e.Kind, Addr: e.Addr}) || !ok {
			t.Errorf("%q is %v %v", e.Name, x, ok)
		}
	}
	if x, ok := inst.Find(s, 4, "f"); x != (inst.Extern{Addr: 5}) || !ok {
		t.Error("in another instance it is", x, ok)
	}
	for _, c := range []struct {
		s    *store.Store
		i    int
		name string
	}{
		{s, 2, "g"}, {s, 2, "ff"}, {s, 2, " f"}, {s, 2, "f  "}, {s, 2, "\x00\x00"}, {s, 2, "e\u0301"}, {s, 0, "f"}, {s, 0, ""}, {s, 1, "f"}, {s, 3, "f"}, {s, 4, ""},
		{s, -1, "f"}, {s, 5, "f"}, {s, math.MinInt, "f"}, {s, math.MaxInt, "f"},
		{nil, 0, "f"}, {nil, 2, "f"}, {new(store.Store), 0, "f"},
	} {
		if x, ok := inst.Find(c.s, c.i, c.name); x != (inst.Extern{}) || ok {
			t.Errorf("%q of %d is %v %v", c.name, c.i, x, ok)
		}
	}
	if d := difference(&store.Store{Funcs: s.Funcs, Insts: s.Insts[:3]}, before); d != "" {
		t.Error("it changes", d)
	}
}
