package shape

import (
	"math"

	"bodkin/api"
	"bodkin/ops"
)

// opIf is the number of the one instruction that may have an else.
const opIf = 0x04

// shuffleLanes is how many lanes i8x16.shuffle chooses.
const shuffleLanes = 16

// Nest is how deep instructions are nested.
func Nest(l []api.Instr) int {
	deepest := 0
	every(l, func(_ api.Instr, depth int) bool {
		deepest = max(deepest, depth)
		return true
	})
	return deepest
}

// Count is how many instructions there are.
func Count(l []api.Instr) int {
	n := 0
	every(l, func(api.Instr, int) bool {
		n++
		return true
	})
	return n
}

// every tells whether something is true of all instructions of a list, with those nested in them. It is asked with how deep an instruction lies, counted from 1, and no more once it is false.
func every(l []api.Instr, is func(in api.Instr, depth int) bool) bool {
	return everyFrom(1, l, is)
}

// everyFrom is every for a list that lies at a depth.
func everyFrom(depth int, l []api.Instr, is func(in api.Instr, depth int) bool) bool {
	for _, in := range l {
		if !is(in, depth) || !everyFrom(depth+1, in.Body, is) || !everyFrom(depth+1, in.Else, is) {
			return false
		}
	}
	return true
}

// isCode tells whether a sequence of instructions may be.
func isCode(l []api.Instr) bool {
	return every(l, func(in api.Instr, depth int) bool { return depth <= api.MaxNest && isInstr(in) })
}

// isInstr tells whether an instruction may be; those nested in it are asked for on their own.
func isInstr(in api.Instr) bool {
	if !ops.Known(in.Op) {
		return false
	}
	is := true
	// in is a copy: each kind empties the fields that it uses, and none may be left.
	switch ops.Imm(in.Op) {
	case ops.ImmBlock:
		return isBlock(in)
	case ops.ImmLabel, ops.ImmFunc, ops.ImmLocal, ops.ImmGlobal, ops.ImmTab, ops.ImmDataMem, ops.ImmData, ops.ImmElem:
		is = isIndex(in.A)
		in.A = 0
	case ops.ImmTable:
		is = isIndex(in.A) && all(in.L, isIndex)
		in.A, in.L = 0, nil
	case ops.ImmIndirect, ops.ImmElemTab, ops.ImmTabs, ops.ImmMem:
		is = isIndex(in.A) && isIndex(in.B)
		in.A, in.B = 0, 0
	case ops.ImmSelect:
		is = all(in.L, isValueType)
		in.L = nil
	case ops.ImmMemLane:
		is = isIndex(in.A) && isIndex(in.B) && len(in.L) == 1 && isByte(in.L[0])
		in.A, in.B, in.L = 0, 0, nil
	case ops.ImmI32, ops.ImmF32:
		is = in.N <= math.MaxUint32
		in.N = 0
	case ops.ImmI64, ops.ImmF64:
		in.N = 0
	case ops.ImmV128:
		in.N, in.H = 0, 0
	case ops.ImmRef:
		is = isRefType(in.A)
		in.A = 0
	case ops.ImmShuffle:
		is = len(in.L) == shuffleLanes && all(in.L, isByte)
		in.L = nil
	case ops.ImmLane:
		is = isByte(in.A)
		in.A = 0
	}
	return is && isUnused(in)
}

// isBlock tells whether a block, a loop or an if may be.
func isBlock(in api.Instr) bool {
	is := false
	switch in.A {
	case 0:
		is = in.B == 0
	case 1:
		is = isValueType(in.B)
	case 2:
		is = isIndex(in.B)
	}
	if in.Op == opIf && in.Other {
		in.Other, in.Else = false, nil
	}
	in.A, in.B, in.Body = 0, 0, nil
	return is && isUnused(in)
}

// isUnused tells whether all fields of an instruction but its number are unused.
func isUnused(in api.Instr) bool {
	return in.A == 0 && in.B == 0 && in.N == 0 && in.H == 0 && !in.Other &&
		len(in.L) == 0 && len(in.Body) == 0 && len(in.Else) == 0
}
