package valid

import (
	"bodkin/api"
	"bodkin/ops"
)

// The numbers of instructions that have the kind of their operands in common with others.
const (
	opUnreachable = 0x00
	opLoop        = 0x03
	opIf          = 0x04
	opBr          = 0x0c
	opReturn      = 0x0f
	opDrop        = 0x1a
	opSelect      = 0x1b
	opLocalGet    = 0x20
	opLocalSet    = 0x21
	opLocalTee    = 0x22
	opGlobalGet   = 0x23
	opTableGet    = 0x25
	opTableSet    = 0x26
	opRefIsNull   = 0xd1
	opRefFunc     = 0xd2
	opTableGrow   = 0xfc00 + 15
	opTableFill   = 0xfc00 + 17
)

// isRefType tells whether a type is one of references.
func isRefType(typ int) bool { return typ == api.FuncRef || typ == api.ExternRef }

// instr follows an instruction.
func (t *typing) instr(in api.Instr) {
	takes, leaves, fixed := ops.Sign(in.Op)
	if !fixed {
		t.unfixed(in)
		return
	}
	t.operands(in)
	t.take(takes...)
	t.put(leaves...)
}

// operands checks what stands behind an instruction whose types are fixed.
func (t *typing) operands(in api.Instr) {
	switch ops.Imm(in.Op) {
	case ops.ImmMem:
		t.access(in)
	case ops.ImmMemLane:
		t.access(in)
		t.lanes(in.Op, in.L...)
	case ops.ImmLane:
		t.lanes(in.Op, in.A)
	case ops.ImmShuffle:
		t.lanes(in.Op, in.L...)
	case ops.ImmZero, ops.ImmZeros:
		t.memory()
	case ops.ImmDataMem:
		t.memory()
		at(t, t.datas, in.A)
	case ops.ImmData:
		at(t, t.datas, in.A)
	case ops.ImmElem:
		at(t, t.elems, in.A)
	case ops.ImmElemTab:
		t.require(at(t, t.elems, in.A).Ref == at(t, t.tables, in.B).Ref)
	case ops.ImmTab:
		at(t, t.tables, in.A)
	case ops.ImmTabs:
		t.require(at(t, t.tables, in.A).Ref == at(t, t.tables, in.B).Ref)
	case ops.ImmFunc:
		at(t, t.funcs, in.A)
		_, is := t.declared[in.A]
		t.require(is)
	}
}

// memory makes sure that there is a memory.
func (t *typing) memory() { t.require(len(t.mems) > 0) }

// access checks what stands behind an instruction that reads or writes a memory.
func (t *typing) access(in api.Instr) {
	t.memory()
	t.require(in.A <= ops.Align(in.Op))
}

// lanes checks the lanes that an instruction chooses.
func (t *typing) lanes(op int, chosen ...int) {
	for _, lane := range chosen {
		t.require(lane < ops.Lanes(op))
	}
}

// unfixed follows an instruction whose types hang on more than its number.
func (t *typing) unfixed(in api.Instr) {
	switch ops.Imm(in.Op) {
	case ops.ImmNone:
		t.plain(in.Op)
	case ops.ImmBlock:
		t.block(in)
	case ops.ImmLabel:
		t.branch(in)
	case ops.ImmTable:
		t.branches(in)
	case ops.ImmFunc:
		t.call(at(t, t.funcs, in.A))
	case ops.ImmIndirect:
		t.require(at(t, t.tables, in.B).Ref == api.FuncRef)
		t.take(api.I32)
		t.call(at(t, t.types, in.A))
	case ops.ImmSelect:
		t.selectOf(in.L)
	case ops.ImmLocal:
		t.local(in.Op, at(t, t.locals, in.A))
	case ops.ImmGlobal:
		t.global(in.Op, at(t, t.globals, in.A))
	case ops.ImmTab:
		t.table(in.Op, at(t, t.tables, in.A).Ref)
	case ops.ImmRef:
		t.put(in.A)
	}
}

// plain follows an instruction that nothing stands behind.
func (t *typing) plain(op int) {
	switch op {
	case opUnreachable:
		t.leave()
	case opReturn:
		t.take(t.labels[0]...)
		t.leave()
	case opDrop:
		t.takeAny()
	case opSelect:
		t.selectAny()
	case opRefIsNull:
		r := t.takeAny()
		t.require(isRefType(r) || r == anyType)
		t.put(api.I32)
	}
}

// selectAny follows a select that doesn't tell the type of its operands.
func (t *typing) selectAny() {
	t.take(api.I32)
	// If the upper type is not known, the stack is open there, and the lower one is not known either.
	upper, lower := t.takeAny(), t.takeAny()
	t.require(!isRefType(upper) && (lower == upper || lower == anyType))
	t.put(upper)
}

// selectOf follows a select that tells the type of its operands.
func (t *typing) selectOf(types []int) {
	t.require(len(types) == 1)
	t.take(api.I32)
	t.take(types...)
	t.take(types...)
	t.put(types...)
}

// blockType is what a block, a loop or an if takes and leaves.
func (t *typing) blockType(in api.Instr) api.FuncType {
	switch in.A {
	case 1:
		return api.FuncType{Results: []int{in.B}}
	case 2:
		return at(t, t.types, in.B)
	}
	return api.FuncType{}
}

// block follows a block, a loop or an if, with the instructions nested in it.
func (t *typing) block(in api.Instr) {
	f := t.blockType(in)
	label := f.Results
	switch in.Op {
	case opLoop:
		label = f.Params
	case opIf:
		t.take(api.I32)
	}
	t.take(f.Params...)
	t.sequence(in.Body, f.Params, f.Results, label)
	if in.Op == opIf {
		// Without an else, what the if takes is left as it is: as by an else without instructions.
		t.sequence(in.Else, f.Params, f.Results, label)
	}
	t.put(f.Results...)
}

// branch follows a br or a br_if.
func (t *typing) branch(in api.Instr) {
	types := t.label(in.A)
	if in.Op == opBr {
		t.take(types...)
		t.leave()
		return
	}
	t.take(api.I32)
	t.take(types...)
	t.put(types...)
}

// branches follows a br_table.
func (t *typing) branches(in api.Instr) {
	last := t.label(in.A)
	t.take(api.I32)
	for _, depth := range in.L {
		types := t.label(depth)
		t.require(len(types) == len(last))
		t.peek(types...)
	}
	t.take(last...)
	t.leave()
}

// call follows the call of a function of a type.
func (t *typing) call(f api.FuncType) {
	t.take(f.Params...)
	t.put(f.Results...)
}

// local follows an instruction that reads or writes a local.
func (t *typing) local(op, typ int) {
	switch op {
	case opLocalGet:
		t.put(typ)
	case opLocalSet:
		t.take(typ)
	case opLocalTee:
		t.take(typ)
		t.put(typ)
	}
}

// global follows an instruction that reads or writes a global.
func (t *typing) global(op int, g api.GlobalType) {
	if op == opGlobalGet {
		t.put(g.Type)
		return
	}
	t.require(g.Mut)
	t.take(g.Type)
}

// table follows an instruction that reads or writes a table of a type of references.
func (t *typing) table(op, ref int) {
	switch op {
	case opTableGet:
		t.take(api.I32)
		t.put(ref)
	case opTableSet:
		t.take(api.I32, ref)
	case opTableGrow:
		t.take(ref, api.I32)
		t.put(api.I32)
	case opTableFill:
		t.take(api.I32, ref, api.I32)
	}
}
