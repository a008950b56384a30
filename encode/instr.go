package encode

import (
	"bodkin/api"
	"bodkin/ints"
	"bodkin/ops"
)

// Bytes that are no instructions, but stand between them.
const (
	otherwise = 0x05
	end       = 0x0b
)

// emptyBlock stands for the type of a block that has none.
const emptyBlock = 0x40

// The bytes that stand ahead of some instructions' numbers, and where those numbers begin.
const (
	prefixFC = 0xfc
	firstFC  = 0xfc00
	prefixFD = 0xfd
	firstFD  = 0xfd00
)

// code writes instructions and the byte that ends them.
func (w *writer) code(l []api.Instr) {
	w.instrs(l)
	w.bytes(end)
}

// instrs writes instructions.
func (w *writer) instrs(l []api.Instr) {
	for _, in := range l {
		w.instr(in)
	}
}

// instr writes an instruction, with those nested in it.
func (w *writer) instr(in api.Instr) {
	w.op(in.Op)
	switch ops.Imm(in.Op) {
	case ops.ImmBlock:
		w.block(in)
	case ops.ImmLabel, ops.ImmFunc, ops.ImmLocal, ops.ImmGlobal, ops.ImmTab, ops.ImmData, ops.ImmElem:
		w.u(in.A)
	case ops.ImmTable:
		w.indices(in.L)
		w.u(in.A)
	case ops.ImmIndirect, ops.ImmElemTab, ops.ImmTabs, ops.ImmMem:
		w.u(in.A)
		w.u(in.B)
	case ops.ImmMemLane:
		w.u(in.A)
		w.u(in.B)
		w.bytes(in.L...)
	case ops.ImmSelect:
		w.types(in.L)
	case ops.ImmZero:
		w.bytes(0)
	case ops.ImmZeros:
		w.bytes(0, 0)
	case ops.ImmDataMem:
		w.u(in.A)
		w.bytes(0)
	case ops.ImmI32:
		w.s(ints.Signed(32, in.N))
	case ops.ImmI64:
		w.s(ints.Signed(64, in.N))
	case ops.ImmF32:
		w.little(4, in.N)
	case ops.ImmF64:
		w.little(8, in.N)
	case ops.ImmV128:
		w.little(8, in.N)
		w.little(8, in.H)
	case ops.ImmRef, ops.ImmLane:
		w.bytes(in.A)
	case ops.ImmShuffle:
		w.bytes(in.L...)
	}
}

// op writes an instruction's number.
func (w *writer) op(op int) {
	switch {
	case op >= firstFD:
		w.bytes(prefixFD)
		w.u(op - firstFD)
	case op >= firstFC:
		w.bytes(prefixFC)
		w.u(op - firstFC)
	default:
		w.bytes(op)
	}
}

// block writes what stands behind the number of a block, a loop or an if.
func (w *writer) block(in api.Instr) {
	switch in.A {
	case 0:
		w.bytes(emptyBlock)
	case 1:
		w.bytes(in.B)
	case 2:
		// With a sign, so that no index begins like a type.
		w.s(int64(in.B))
	}
	w.instrs(in.Body)
	if in.Other {
		w.bytes(otherwise)
		w.instrs(in.Else)
	}
	w.bytes(end)
}
