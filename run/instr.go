package run

import (
	"slices"

	"bodkin/api"
	"bodkin/flat"
	"bodkin/ops"
	"bodkin/scalar"
	"bodkin/store"
)

// The numbers of the instructions that are told apart by them, and of those at which a family begins.
const (
	opUnreachable  = 0x00
	opCall         = 0x10
	opCallIndirect = 0x11
	opDrop         = 0x1a
	opSelect       = 0x1b
	opSelectOf     = 0x1c
	opLocalGet     = 0x20
	opLocalSet     = 0x21
	opLocalTee     = 0x22
	opGlobalGet    = 0x23
	opGlobalSet    = 0x24
	opTableGet     = 0x25
	opTableSet     = 0x26
	opMemorySize   = 0x3f
	opMemoryGrow   = 0x40
	opI32Const     = 0x41
	opRefNull      = 0xd0
	opRefIsNull    = 0xd1
	opRefFunc      = 0xd2
	opDataDrop     = 0xfc00 + 9
	opMemoryCopy   = 0xfc00 + 10
	opMemoryFill   = 0xfc00 + 11
	opElemDrop     = 0xfc00 + 13
	opTableCopy    = 0xfc00 + 14
	opTableGrow    = 0xfc00 + 15
	opTableSize    = 0xfc00 + 16
	opTableFill    = 0xfc00 + 17
	opV128Load     = 0xfd00
	opLoad8x8S     = 0xfd00 + 1
	opLoad8Splat   = 0xfd00 + 7
	opV128Store    = 0xfd00 + 11
)

// constTypes are the types of the constants, in the order of their instructions.
var constTypes = [...]int{api.I32, api.I64, api.F32, api.F64}

// do does an instruction.
func (x *machine) do(in *flat.Ins) api.Errno {
	if scalar.Numeric(in.Op) {
		return x.compute(in)
	}
	switch ops.Imm(in.Op) {
	case ops.ImmMem, ops.ImmMemLane:
		return x.access(in)
	case ops.ImmZero, ops.ImmZeros, ops.ImmDataMem, ops.ImmData:
		return x.memory(in)
	case ops.ImmTab, ops.ImmTabs, ops.ImmElemTab, ops.ImmElem:
		return x.table(in)
	case ops.ImmI32, ops.ImmI64, ops.ImmF32, ops.ImmF64:
		x.put(api.Value{Type: constTypes[in.Op-opI32Const], Lo: in.N})
		return api.OK
	case ops.ImmV128:
		x.put(api.Value{Type: api.V128, Lo: in.N, Hi: in.H})
		return api.OK
	}
	return x.control(in)
}

// compute does an instruction that works on numbers alone.
func (x *machine) compute(in *flat.Ins) api.Errno {
	takes, _, _ := ops.Sign(in.Op)
	v, e := scalar.Do(in.Op, choices(in), x.take(len(takes)))
	if e == api.OK {
		x.put(v)
	}
	return e
}

// choices are the lanes that an instruction on numbers chooses.
func choices(in *flat.Ins) []int {
	switch ops.Imm(in.Op) {
	case ops.ImmLane:
		return []int{in.A}
	case ops.ImmShuffle:
		return in.L
	}
	return nil
}

// control does an instruction after which another function or another instruction than the next one may follow, or goes on to those that only move values.
func (x *machine) control(in *flat.Ins) api.Errno {
	switch in.Op {
	case flat.Jump:
		x.jump(in.T)
	case flat.If:
		if x.number() != 0 {
			x.jump(in.T)
		}
	case flat.Unless:
		if x.number() == 0 {
			x.jump(in.T)
		}
	case flat.Choose:
		last := len(in.Table) - 1
		x.jump(in.Table[min(x.number(), uint64(last))])
	case flat.Return:
		x.leave(in.T.Keep)
	case opUnreachable:
		return api.TrapUnreachable
	case opCall:
		return x.call(x.frame().Funcs[in.A])
	case opCallIndirect:
		return x.callIndirect(in)
	default:
		x.move(in)
	}
	return api.OK
}

// callIndirect calls a function out of a table, if it has the type that is asked for.
func (x *machine) callIndirect(in *flat.Ins) api.Errno {
	v, e := x.tableOf(in.B).Get(x.number())
	if e != api.OK {
		return api.TrapUndefined
	}
	if v.Null {
		return api.TrapNull
	}
	is, want := x.Funcs[v.Lo].Type, x.frame().Module.Types[in.A]
	if !slices.Equal(is.Params, want.Params) || !slices.Equal(is.Results, want.Results) {
		return api.TrapType
	}
	return x.call(int(v.Lo))
}

// move does an instruction that only moves values, or makes references.
func (x *machine) move(in *flat.Ins) {
	f := x.frame()
	switch in.Op {
	case opDrop:
		x.take(1)
	case opSelect, opSelectOf:
		l := x.take(3)
		if l[2].Lo == 0 {
			l[0] = l[1]
		}
		x.put(l[0])
	case opLocalGet:
		x.put(x.stack[f.base+in.A])
	case opLocalSet:
		l := x.take(1)
		x.stack[f.base+in.A] = l[0]
	case opLocalTee:
		x.stack[f.base+in.A] = x.stack[len(x.stack)-1]
	case opGlobalGet:
		x.put(x.Globals[f.Globals[in.A]].V)
	case opGlobalSet:
		l := x.take(1)
		x.Globals[f.Globals[in.A]].V = l[0]
	case opRefNull:
		x.put(store.Zero(in.A))
	case opRefIsNull:
		x.putI32(bit(x.take(1)[0].Null))
	case opRefFunc:
		x.put(api.Value{Type: api.FuncRef, Lo: uint64(f.Funcs[in.A])})
	}
}

// bit is 1 for what is so.
func bit(is bool) int {
	if is {
		return 1
	}
	return 0
}
