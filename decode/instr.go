package decode

import (
	"math"

	"bodkin/api"
	"bodkin/leb"
	"bodkin/ops"
)

// Bytes that are no instructions, but stand between them.
const (
	otherwise = 0x05
	end       = 0x0b
)

// emptyBlock stands for the type of a block that has none.
const emptyBlock = 0x40

// opIf is the number of the one instruction that may have an else.
const opIf = 0x04

// shuffleLanes is how many lanes i8x16.shuffle chooses.
const shuffleLanes = 16

// The bytes that stand ahead of some instructions' numbers, and where those numbers begin.
const (
	prefixFC = 0xfc
	firstFC  = 0xfc00
	prefixFD = 0xfd
	firstFD  = 0xfd00
)

// code reads instructions and the byte that ends them.
func (r *reader) code() []api.Instr {
	l, last := r.instrs(0)
	if last == otherwise {
		r.refuse()
	}
	return l
}

// instrs reads instructions that are nested in so many others, and the byte behind them, which is end or otherwise.
func (r *reader) instrs(depth int) (l []api.Instr, last int) {
	for {
		op := r.op()
		if op == end || op == otherwise {
			return l, op
		}
		if depth == api.MaxNest {
			r.Fail(api.ErrNest)
		}
		if r.Err() != api.OK {
			return nil, end
		}
		l = append(l, r.instr(op, depth))
	}
}

// op reads an instruction's number, or a byte that stands between instructions.
func (r *reader) op() int {
	op := r.number()
	switch op {
	case end, otherwise:
		return op
	case prefixFC:
		op = firstFC + r.sub()
	case prefixFD:
		op = firstFD + r.sub()
	}
	if !ops.Known(op) {
		r.refuse()
	}
	return op
}

// sub reads the number behind a prefix.
func (r *reader) sub() int {
	n := r.index()
	// Greater ones would reach the numbers behind the other prefix.
	if n > math.MaxUint8 {
		r.refuse()
	}
	return n
}

// instr reads what stands behind an instruction's number; the instruction is nested in so many others.
func (r *reader) instr(op, depth int) api.Instr {
	in := api.Instr{Op: op}
	switch ops.Imm(op) {
	case ops.ImmBlock:
		r.block(&in, depth)
	case ops.ImmLabel, ops.ImmFunc, ops.ImmLocal, ops.ImmGlobal, ops.ImmTab, ops.ImmData, ops.ImmElem:
		in.A = r.index()
	case ops.ImmTable:
		in.L, in.A = list(r, r.index), r.index()
	case ops.ImmIndirect, ops.ImmElemTab, ops.ImmTabs, ops.ImmMem:
		in.A, in.B = r.index(), r.index()
	case ops.ImmMemLane:
		in.A, in.B, in.L = r.index(), r.index(), r.lanes(1)
	case ops.ImmSelect:
		in.L = list(r, r.valueType)
	case ops.ImmZero:
		r.zero()
	case ops.ImmZeros:
		r.zero()
		r.zero()
	case ops.ImmDataMem:
		in.A = r.index()
		r.zero()
	case ops.ImmI32:
		in.N = uint64(uint32(r.S(32)))
	case ops.ImmI64:
		in.N = uint64(r.S(64))
	case ops.ImmF32:
		in.N = r.little(4)
	case ops.ImmF64:
		in.N = r.little(8)
	case ops.ImmV128:
		in.N, in.H = r.little(8), r.little(8)
	case ops.ImmRef:
		in.A = r.refType()
	case ops.ImmLane:
		in.A = r.number()
	case ops.ImmShuffle:
		in.L = r.lanes(shuffleLanes)
	}
	return in
}

// lanes reads so many lanes' numbers.
func (r *reader) lanes(count int) []int {
	var l []int
	for range count {
		l = append(l, r.number())
	}
	return l
}

// block reads what stands behind the number of a block, a loop or an if that is nested in so many others.
func (r *reader) block(in *api.Instr, depth int) {
	in.A, in.B = r.blockType()
	body, last := r.instrs(depth + 1)
	in.Body = body
	if last == otherwise && in.Op == opIf {
		in.Other = true
		in.Else, last = r.instrs(depth + 1)
	}
	if last == otherwise {
		r.refuse()
	}
}

// blockType reads the type of a block, as its fields A and B.
func (r *reader) blockType() (a, b int) {
	first := r.number()
	switch {
	case first == emptyBlock:
		return 0, 0
	case isValueType(first):
		return 1, first
	}
	return 2, r.blockIndex(byte(first))
}

// blockIndex reads a block's index of types, the first byte of which has been read.
func (r *reader) blockIndex(first byte) int {
	number := []byte{first}
	for last := first; last >= 0x80; {
		last = r.Byte()
		number = append(number, last)
	}
	again := leb.Read(number)
	n := again.S(33)
	r.Fail(again.Err())
	if n < 0 {
		r.refuse()
	}
	return int(n)
}
