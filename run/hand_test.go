package run_test

import (
	"slices"
	"strconv"
	"testing"

	"bodkin/api"
	"bodkin/run"
	"bodkin/store"
)

// usual are limits within which most of the tests' functions end.
var usual = run.Limits{Fuel: 1000, Depth: 10, Pages: 2}

// byHand is a function and its arguments, and what it must leave after how many steps, or why it ends otherwise.
type byHand struct {
	f, body, args, want string
	steps               int
	e                   api.Errno
}

// check runs a function of world within limits.
func (c byHand) check(t *testing.T, l run.Limits) (*store.Store, *store.Inst) {
	t.Helper()
	s, inst := built(t, world(c.f, c.body))
	got := invoke(s, inst.Funcs[tested], valuesOf(c.args), l)
	if want := (outcome{valuesOf(c.want), c.steps, c.e}); !got.same(want) {
		t.Error(c.body, "with", c.args, "is", got, "and not", want)
	}
	return s, inst
}

func checkAll(t *testing.T, l []byHand) {
	t.Helper()
	for _, c := range l {
		c.check(t, usual)
	}
}

// P15.2, P15.3: jumps, and what is a step.
func TestJumps(t *testing.T) {
	choice := "block block block local.get:0 br_table:0,1,2 end i32.const:10 return end i32.const:20 return end i32.const:30"
	sum := "i32.const:0 loop:4 local.get:0 i32.add local.get:0 i32.const:-1 i32.add local.tee:0 br_if:0 end"
	checkAll(t, []byHand{
		{"->", "", "", "", 0, 0},
		{"->", "nop nop", "", "", 2, 0},
		{"->", "block loop block end end end", "", "", 0, 0},
		{"->", "block nop loop nop end nop end", "", "", 3, 0},
		{"-> i32", "i32.const:7", "", "i32:7", 1, 0},
		{"i32 i64 -> i64 i32", "local.get:1 local.get:0", "i32:5 i64:-6", "i64:-6 i32:5", 2, 0},
		{"-> i32", "nop unreachable nop", "", "", 2, api.TrapUnreachable},
		{"-> i32", "block:i32 i32.const:1 i32.const:2 br:0 end", "", "i32:2", 3, 0},
		{"-> i32", "i64.const:1 i64.const:2 i32.const:3 br:0", "", "i32:3", 4, 0},
		{"-> i64 i32", "f32.const:1 i64.const:2 i32.const:3 br:0", "", "i64:2 i32:3", 4, 0},
		{"-> i32", "i32.const:1 block:i32 i64.const:2 i64.const:3 i32.const:4 br:0 end i32.add", "", "i32:5", 6, 0},
		{"-> i64 i32", "i64.const:1 block i64.const:2 br:0 end i32.const:3", "", "i64:1 i32:3", 4, 0},
		{"-> i32", "i64.const:9 block loop i32.const:5 return end end unreachable", "", "i32:5", 3, 0},
		{"i32 -> i32", "i64.const:9 block i32.const:7 local.get:0 br_if:0 drop end drop i32.const:3", "i32:0", "i32:3", 7, 0},
		{"i32 -> i32", "i64.const:9 block i32.const:7 local.get:0 br_if:0 drop end drop i32.const:3", "i32:0x80000000", "i32:3", 6, 0},
		{"i32 -> i32", "local.get:0 if:i32 i32.const:10 else nop i32.const:20 end", "i32:1", "i32:10", 3, 0},
		{"i32 -> i32", "local.get:0 if:i32 i32.const:10 else nop i32.const:20 end", "i32:0x100", "i32:10", 3, 0},
		{"i32 -> i32", "local.get:0 if:i32 i32.const:10 else nop i32.const:20 end", "i32:0", "i32:20", 4, 0},
		{"i32 ->", "local.get:0 if nop nop end nop", "i32:1", "", 5, 0},
		{"i32 ->", "local.get:0 if nop nop end nop", "i32:0", "", 3, 0},
		{"i32 ->", "local.get:0 if br:0 else br:1 end nop", "i32:1", "", 4, 0},
		{"i32 ->", "local.get:0 if br:0 else br:1 end nop", "i32:0", "", 3, 0},
		{"i32 -> i32", choice, "i32:0", "i32:10", 4, 0},
		{"i32 -> i32", choice, "i32:1", "i32:20", 4, 0},
		{"i32 -> i32", choice, "i32:2", "i32:30", 3, 0},
		{"i32 -> i32", choice, "i32:3", "i32:30", 3, 0},
		{"i32 -> i32", choice, "i32:-1", "i32:30", 3, 0},
		{"i32 -> i32", "i32.const:8 local.get:0 br_table:0,0", "i32:9", "i32:8", 3, 0},
		{"i32 -> i32", sum, "i32:3", "i32:6", 22, 0},
		{"i32 -> i32", sum, "i32:1", "i32:1", 8, 0},
		{"i32 -> i32", sum, "i32:0", "", 1000, api.ErrFuel},
		{"->", "loop br:0 end", "", "", 1000, api.ErrFuel},
	})
}

// P15.2, P15.3: calls, also of the host's functions.
func TestCalls(t *testing.T) {
	all := "i32 f32 f64 i64 v128 func extern -> extern func v128 i64 f64 f32 i32"
	gets := "local.get:0 local.get:1 local.get:2 local.get:3 local.get:4 local.get:5 local.get:6"
	checkAll(t, []byHand{
		{"->", "call:3", "", "", 2, 0},
		{"-> i32", "i32.const:4 call:4", "", "i32:5", 5, 0},
		{"-> f32 i32 i64", "f32.const:9 i64.const:1 i32.const:2 call:5", "", "f32:9 i32:2 i64:1", 6, 0},
		{all, gets + " call:6", "i32:1 f32:2 f64:3 i64:4 v128:5,6 func:7 extern:8", "extern:8 func:7 v128:5,6 i64:4 f64:3 f32:2 i32:1", 15, 0},
		{"i32 -> i32", "local.get:0 call:7", "i32:3", "i32:3", 29, 0},
		{"i32 -> i32", "local.get:0 call:7", "i32:8", "i32:8", 69, 0},
		{"i32 -> i32", "local.get:0 call:7", "i32:9", "", 56, api.ErrDepth},
		{"->", "call:8", "", "", 10, api.ErrDepth},
		{"-> i32", "call:9", "", "", 2, api.TrapUnreachable},
		{"->", "call:10", "", "", 1000, api.ErrFuel},
		{"-> i64 i32", "i64.const:3 call:11", "", "i64:3 i32:5", 4, 0},
		{"-> i64 i32", "i64.const:3 call:12", "", "i64:3 i32:6", 5, 0},
		{"->", "call:1 call:1", "", "", 2, 0},
		{"-> i32 i64 i64 func extern f32 v128", "i32.const:9 i32.const:1 i64.const:2 ref.func:2 ref.null:extern call:0", "", "i32:9 i64:0 i64:0 func:null extern:null f32:0 v128:0,0", 6, 0},
		// locals
		{"-> i32 i64 f32 f64 v128 func extern ; i32 i64 f32 f64 v128 func extern", gets, "", "i32:0 i64:0 f32:0 f64:0 v128:0,0 func:null extern:null", 7, 0},
		{"i64 -> i32 i64 ; i32", "local.get:1 local.get:0", "i64:5", "i32:0 i64:5", 2, 0},
		{"i32 -> i32 ; i32", "local.get:0 if i32.const:0 local.set:0 i32.const:99 local.set:1 i32.const:0 call:4 drop end local.get:1", "i32:1", "i32:99", 13, 0},
	})
}

// P15.3: call_indirect, with each of its traps at its edges.
func TestCallIndirect(t *testing.T) {
	checkAll(t, []byHand{
		{"->", "i32.const:1 call_indirect:1,1", "", "", 3, 0},
		{"->", "i32.const:1 call_indirect:0,1", "", "", 3, 0},
		{"-> f32 i32 i64", "f32.const:5 i64.const:1 i32.const:2 i32.const:3 call_indirect:5,1", "", "f32:5 i32:2 i64:1", 7, 0},
		{"->", "i32.const:4 call_indirect:1,1", "", "", 2, 0},
		{"->", "i32.const:0 call_indirect:1,1", "", "", 2, api.TrapNull},
		{"->", "i32.const:7 call_indirect:1,1", "", "", 2, api.TrapNull},
		{"->", "i32.const:8 call_indirect:1,1", "", "", 2, api.TrapUndefined},
		{"->", "i32.const:-1 call_indirect:1,1", "", "", 2, api.TrapUndefined},
		{"->", "i32.const:0 call_indirect:1,3", "", "", 2, api.TrapUndefined},
		{"->", "i32.const:2 call_indirect:1,1", "", "", 2, api.TrapType},
		{"->", "i32.const:6 call_indirect:1,1", "", "", 2, api.TrapType},
		{"-> i32", "i32.const:1 call_indirect:3,1", "", "", 2, api.TrapType},
		{"-> i32", "i32.const:2 call_indirect:3,1", "", "", 2, api.TrapType},
		{"->", "i32.const:0 i32.const:2 call_indirect:2,1", "", "", 3, api.TrapType},
		{"->", "i32.const:0 i32.const:4 call_indirect:2,1", "", "", 3, api.TrapType},
		{"-> i32", "i32.const:6 call_indirect:3,1", "", "", 3, api.TrapUnreachable},
		{"->", "i32.const:5 call_indirect:1,1", "", "", 11, api.ErrDepth},
		{"->", "ref.null:func i32.const:1 table.grow:1 call_indirect:1,1", "", "", 4, api.TrapNull},
		{"->", "ref.null:func i32.const:1 table.grow:1 drop i32.const:9 call_indirect:1,1", "", "", 6, api.TrapUndefined},
		{"-> i32", "i32.const:3 ref.func:11 table.set:1 i32.const:3 call_indirect:3,1", "", "i32:5", 7, 0},
	})
}

// P15.3: select, drop, locals, globals and references.
func TestValues(t *testing.T) {
	checkAll(t, []byHand{
		{"i32 -> i32", "i32.const:1 i32.const:2 local.get:0 select", "i32:0", "i32:2", 4, 0},
		{"i32 -> i32", "i32.const:1 i32.const:2 local.get:0 select", "i32:1", "i32:1", 4, 0},
		{"i32 -> i32", "i32.const:1 i32.const:2 local.get:0 select", "i32:0x80000000", "i32:1", 4, 0},
		{"i32 -> i64 f32", "i64.const:9 f32.const:0xffa00001 f32.const:2 local.get:0 select", "i32:1", "i64:9 f32:0xffa00001", 5, 0},
		{"i32 -> v128", "v128.const:1,2 v128.const:3,4 local.get:0 select", "i32:0", "v128:3,4", 4, 0},
		{"i32 -> func", "ref.null:func ref.func:3 local.get:0 select:func", "i32:1", "func:null", 4, 0},
		{"i32 -> func", "ref.null:func ref.func:3 local.get:0 select:func", "i32:0", "func:10", 4, 0},
		{"-> i32", "i32.const:1 i64.const:2 drop", "", "i32:1", 3, 0},
		{"-> i32 f32", "i32.const:1 f32.const:2 v128.const:3,4 drop", "", "i32:1 f32:2", 4, 0},
		{"i32 i64 -> i32 i64", "i32.const:5 local.set:0 i64.const:6 local.set:1 local.get:0 local.get:1", "i32:1 i64:2", "i32:5 i64:6", 6, 0},
		{"i32 -> i32 i32 ; i32", "i32.const:9 i32.const:5 local.tee:1 drop local.get:1", "i32:1", "i32:9 i32:5", 5, 0},
		{"i32 -> i32 i32 ; i32", "local.get:0 local.tee:1 local.get:1", "i32:7", "i32:7 i32:7", 3, 0},
		{"i32 -> i32 i32", "local.get:0 i32.const:8 local.set:0 local.get:0", "i32:7", "i32:7 i32:8", 4, 0},
		{"-> i32 i64 i32 i64 f32 f64 v128 func extern", "global.get:0 global.get:1 global.get:2 global.get:3 global.get:4 global.get:5 global.get:6 global.get:7 global.get:8", "", "i32:41 i64:-42 i32:-2 i64:3 f32:0x7f800001 f64:5 v128:6,7 func:1 extern:8", 9, 0},
		{"-> i64 v128 i64", "i64.const:7 i64.const:-3 global.set:1 v128.const:-1,-2 global.set:6 global.get:6 global.get:1", "", "i64:7 v128:-1,-2 i64:-3", 7, 0},
		{"extern -> extern", "local.get:0 global.set:8 global.get:8", "extern:0xffffffffffffffff", "extern:0xffffffffffffffff", 3, 0},
		{"-> func extern", "ref.null:func ref.null:extern", "", "func:null extern:null", 2, 0},
		{"extern func -> i32 i32", "local.get:0 ref.is_null local.get:1 ref.is_null", "extern:0 func:null", "i32:0 i32:1", 4, 0},
		{"extern func -> i32 i32", "local.get:0 ref.is_null local.get:1 ref.is_null", "extern:null func:0", "i32:1 i32:0", 4, 0},
		{"-> func func", "ref.func:0 ref.func:12", "", "func:13 func:1", 2, 0},
	})
}

// P15.3: constants, and instructions on numbers and vectors, which are layer 7's.
func TestNumbers(t *testing.T) {
	checkAll(t, []byHand{
		{"-> i32 i64 f32 f64 v128", "i32.const:-1 i64.const:-2 f32.const:-3 f64.const:-4 v128.const:-5,-6", "", "i32:-1 i64:-2 f32:-3 f64:-4 v128:-5,-6", 5, 0},
		{"-> i32", "i32.const:5 i32.const:7 i32.sub", "", "i32:-2", 3, 0},
		{"-> i64 i32", "i64.const:9 i32.const:5 i32.eqz", "", "i64:9 i32:0", 3, 0},
		{"-> i32", "i32.const:7 i32.const:0 i32.div_s", "", "", 3, api.TrapDiv},
		{"-> i32", "i32.const:0x80000000 i32.const:-1 i32.div_s", "", "", 3, api.TrapOverflow},
		{"-> i64", "i64.const:7 i64.const:0 i64.rem_u nop", "", "", 3, api.TrapDiv},
		{"-> f32", "f32.const:0 f32.const:0 f32.div", "", "f32:0x7fc00000", 3, 0},
		{"-> i32", "f32.const:0x7fc00000 i32.trunc_f32_s", "", "", 2, api.TrapConvert},
		{"-> i32", "f32.const:0x4f800000 i32.trunc_f32_u", "", "", 2, api.TrapOverflow},
		{"-> i32", "f32.const:0x4f800000 i32.trunc_sat_f32_u", "", "i32:-1", 2, 0},
		{"-> i32", "i64.const:0x100000005 i32.wrap_i64", "", "i32:5", 2, 0},
		{"-> i64 v128", "i64.const:1 v128.const:0x0102030405060708,0 v128.const:1,-1 i8x16.add", "", "i64:1 v128:0x0102030405060709,-1", 4, 0},
		{"-> i32", "v128.const:0,0x80ff000000000000 i8x16.extract_lane_s:15", "", "i32:-128", 2, 0},
		{"-> i32", "v128.const:0,0x80ff000000000000 i8x16.extract_lane_u:14", "", "i32:255", 2, 0},
		{"-> v128", "v128.const:0,0 i64.const:5 i64x2.replace_lane:1", "", "v128:0,5", 3, 0},
		{"-> v128", "v128.const:0x0706050403020100,0 v128.const:0,0x1700000000000000 i8x16.shuffle:31,7,6,5,4,3,2,1,0,0,0,0,0,0,0,31", "", "v128:0x0102030405060717,0x1700000000000000", 3, 0},
		{"-> v128", "v128.const:1,2 v128.const:3,4 v128.const:-1,0 v128.bitselect", "", "v128:1,4", 4, 0},
		{"-> v128", "v128.const:1,2 i32.const:65 i64x2.shl", "", "v128:2,4", 3, 0},
	})
}

// P15.1, P15.2, and the chapter's examples: the depth and the steps at which an execution ends.
func TestLimits(t *testing.T) {
	limits := func(fuel, depth int) run.Limits { return run.Limits{Fuel: fuel, Depth: depth} }
	recursive := byHand{"i32 -> i32", "local.get:0 if:i32 local.get:0 i32.const:-1 i32.add call:2 else i32.const:9 end", "i32:2", "i32:9", 15, 0}
	for _, c := range []struct {
		byHand
		l run.Limits
	}{
		{byHand{"->", "loop br:0 end", "", "", 5, api.ErrFuel}, limits(5, 1)},
		{byHand{"->", "call:2", "", "", 3, api.ErrDepth}, limits(100, 3)},
		{byHand{"->", "call:2", "", "", 3, api.ErrDepth}, limits(3, 3)},
		{byHand{"->", "call:2", "", "", 2, api.ErrFuel}, limits(2, 3)},
		{byHand{"->", "call:2", "", "", 0, api.ErrDepth}, limits(100, 0)},
		{byHand{"->", "", "", "", 0, api.ErrDepth}, limits(0, 0)},
		{byHand{"->", "", "", "", 0, 0}, limits(0, 1)},
		{byHand{"->", "block loop end end", "", "", 0, 0}, limits(0, 1)},
		{byHand{"->", "nop", "", "", 0, api.ErrFuel}, limits(0, 1)},
		{byHand{"->", "unreachable", "", "", 0, api.ErrFuel}, limits(0, 1)},
		{byHand{"->", "unreachable", "", "", 1, api.TrapUnreachable}, limits(1, 1)},
		{byHand{"->", "call:1 call:1", "", "", 2, 0}, limits(2, 1)},
		{byHand{"->", "call:3", "", "", 1, api.ErrDepth}, limits(2, 1)},
		{byHand{"->", "call:3 call:3", "", "", 4, 0}, limits(4, 2)},
		{byHand{"->", "call:3 call:3", "", "", 3, api.ErrFuel}, limits(3, 2)},
		{byHand{"-> i32", "i32.const:1 if:i32 i32.const:2 else i32.const:3 end", "", "i32:2", 3, 0}, limits(3, 1)},
		{byHand{"-> i32", "i32.const:1 if:i32 i32.const:2 else i32.const:3 end", "", "", 2, api.ErrFuel}, limits(2, 1)},
		{byHand{"->", "i32.const:1 call_indirect:1,1", "", "", 2, api.ErrDepth}, limits(9, 1)},
		{recursive, limits(15, 3)},
		{byHand{recursive.f, recursive.body, recursive.args, "", 12, api.ErrDepth}, limits(15, 2)},
		{byHand{recursive.f, recursive.body, recursive.args, "", 14, api.ErrFuel}, limits(14, 3)},
	} {
		c.check(t, c.l)
	}
}

// P15.1, P15.2: the host's functions need no step and no depth of their own, and leave a log in new memory.
func TestHost(t *testing.T) {
	s, inst := built(t, world("i64 ->", "i32.const:-1 local.get:0 ref.func:3 ref.null:extern call:0 drop drop drop drop drop drop call:1"))
	got := invoke(s, inst.Funcs[tested], valuesOf("i64:7"), usual)
	if !got.same(outcome{nil, 12, 0}) {
		t.Error("calls of the host are", got)
	}
	args := valuesOf("i32:1 i64:-2 func:3 extern:4")
	got = invoke(s, inst.Funcs[0], args, run.Limits{})
	if want := valuesOf("i64:0 i64:0 func:null extern:null f32:0 v128:0,0"); !got.same(outcome{want, 0, 0}) {
		t.Error("a function of the host is", got)
	}
	if !slices.Equal(args, valuesOf("i32:1 i64:-2 func:3 extern:4")) {
		t.Error("the arguments are", args)
	}
	clear(args)
	clear(got.out)
	want := []store.Call{{Host: 3, Args: valuesOf("i32:-1 i64:7 func:10 extern:null")}, {Host: 0}, {Host: 3, Args: valuesOf("i32:1 i64:-2 func:3 extern:4")}}
	if d := difference(s, &store.Store{Funcs: s.Funcs, Tables: s.Tables, Mems: s.Mems, Globals: s.Globals, Elems: s.Elems, Datas: s.Datas, Insts: s.Insts, Log: want}); d != "" {
		t.Error("the log is", s.Log)
	}
}

// P15.2: a great depth is none of Go's stack.
func TestDeep(t *testing.T) {
	const depth = 1 << 20
	byHand{"i64 ->", "i64.const:1 call:2", "i64:0", "", 2 * depth, api.ErrDepth}.check(t, run.Limits{Fuel: 3 * depth, Depth: depth})
	byHand{"i32 -> i32", "local.get:0 call:7", "i32:" + strconv.Itoa(depth-2), "i32:" + strconv.Itoa(depth-2), 8*(depth-2) + 5, 0}.check(t, run.Limits{Fuel: 10 * depth, Depth: depth})
}

// P15.2: a function calls the next one, through many of them, each of which adds 1.
func TestManyFunctions(t *testing.T) {
	const count = 1000
	m := api.Module{Types: []api.FuncType{{Params: []int{api.I32}, Results: []int{api.I32}}}}
	inst, s := &store.Inst{}, &store.Store{}
	for i := range count {
		body := code("local.get:0 i32.const:1 i32.add call:" + strconv.Itoa(i+1))
		if i == count-1 {
			body = body[:3]
		}
		m.Funcs = append(m.Funcs, api.Code{Body: append(slices.Repeat(code("nop"), 100), body...)})
		inst.Funcs = append(inst.Funcs, i)
		s.Funcs = append(s.Funcs, store.Func{Type: m.Types[0], Code: i})
	}
	inst.Module = m
	s.Insts = []*store.Inst{inst}
	l := run.Limits{Fuel: 1000 * count, Depth: count}
	if got := invoke(s, 0, valuesOf("i32:5"), l); !got.same(outcome{valuesOf("i32:" + strconv.Itoa(5+count)), 104*count - 1, 0}) {
		t.Error("it is", got)
	}
	l.Depth--
	if got := invoke(s, 0, valuesOf("i32:5"), l); !got.same(outcome{nil, 104 * (count - 1), api.ErrDepth}) {
		t.Error("with less depth it is", got)
	}
}

// P15.2: as many locals as there may be, in each of many calls.
func TestManyLocals(t *testing.T) {
	m := world("i32 -> i32", "local.get:0 local.set:50000 local.get:49999 drop local.get:0 if local.get:0 i32.const:-1 i32.add call:2 drop end local.get:50000")
	m.Funcs[0].Locals = slices.Repeat([]int{api.I32}, api.MaxLocals)
	s, inst := built(t, m)
	if got := invoke(s, inst.Funcs[tested], valuesOf("i32:49"), run.Limits{Fuel: 10000, Depth: 50}); !got.same(outcome{valuesOf("i32:49"), 12*49 + 7, 0}) {
		t.Error("it is", got)
	}
}
