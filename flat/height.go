package flat

import (
	"bodkin/api"
	"bodkin/ops"
)

// The numbers of instructions that are not all translated as they are, or whose types are not fixed.
const (
	opUnreachable = 0x00
	opBlock       = 0x02
	opLoop        = 0x03
	opIf          = 0x04
	opBr          = 0x0c
	opBrIf        = 0x0d
	opBrTable     = 0x0e
	opReturn      = 0x0f
	opCall        = 0x10
	opIndirect    = 0x11
	opDrop        = 0x1a
	opSelect      = 0x1b
	opSelectOf    = 0x1c
	opLocalGet    = 0x20
	opLocalSet    = 0x21
	opGlobalGet   = 0x23
	opGlobalSet   = 0x24
	opTableSet    = 0x26
	opRefNull     = 0xd0
	opTableGrow   = 0xfc00 + 15
	opTableFill   = 0xfc00 + 17
)

// change is by how much an instruction that is translated as it is changes the height of the stack.
func (w *lowering) change(in api.Instr) int {
	if takes, leaves, fixed := ops.Sign(in.Op); fixed {
		return len(leaves) - len(takes)
	}
	switch in.Op {
	case opCall:
		return called(w.funcs[in.A])
	case opIndirect:
		return called(w.types[in.A]) - 1
	case opLocalGet, opGlobalGet, opRefNull:
		return 1
	case opDrop, opLocalSet, opGlobalSet, opTableGrow:
		return -1
	case opSelect, opSelectOf, opTableSet:
		return -2
	case opTableFill:
		return -3
	}
	// What is left takes as many values as it leaves.
	return 0
}

// called is by how much a function of a type changes the height.
func called(f api.FuncType) int { return len(f.Results) - len(f.Params) }
