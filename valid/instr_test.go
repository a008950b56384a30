package valid_test

import (
	"slices"
	"strconv"
	"testing"

	"bodkin/api"
	"bodkin/ops"
)

// P12.1: a function leaves exactly its results.
func TestResults(t *testing.T) {
	checkBodies(t, true, `
-> |
-> i32 | i32.const
-> i32 f64 | i32.const f64.const
i64 -> i64 | local.get:0
-> | unreachable
-> i32 i64 | unreachable
-> i32 i64 | unreachable i64.const
-> i32 i64 | unreachable i32.const i64.const
-> | nop
i32 -> ; v128 |
`)
	checkBodies(t, false, `
-> i32 |
-> | i32.const
-> i32 | i64.const
-> i32 | i32.const i32.const
-> i32 f64 | f64.const i32.const
-> i32 f64 | f64.const
i32 -> i32 |
-> func | ref.null:extern
-> | unreachable i32.const
-> i64 | unreachable i32.const
-> i32 i64 | unreachable i32.const
-> i32 | unreachable i32.const i32.const
-> i32 i64 | unreachable i64.const i64.const
`)
}

// P12.2: block, loop and if.
func TestBlocks(t *testing.T) {
	checkBodies(t, true, `
-> | block end
-> | loop end
i32 -> | local.get:0 if end
i32 -> | local.get:0 if else end
-> i32 | block:i32 i32.const end
-> i32 | loop:i32 i32.const end
-> f32 | i32.const if:f32 f32.const else f32.const end
-> func | block:func ref.null:func end
-> v128 | block:v128 v128.const end
-> i32 i64 | block:6 i32.const i64.const end
-> | i32.const f32.const block:7 drop drop end
-> f64 v128 | i32.const f32.const block:3 drop drop f64.const v128.const end
-> f64 v128 | i32.const f32.const loop:3 drop drop f64.const v128.const end
-> f64 v128 | i32.const f32.const i32.const if:3 drop drop f64.const v128.const else unreachable end
-> i64 | i64.const i32.const if:5 end
-> i64 | i64.const i32.const if:5 else end
-> i64 | i64.const i32.const if:5 drop i64.const:7 end
-> i32 i64 | i32.const i64.const block end
-> i32 | i32.const block block end loop end end
-> i64 | block:i64 unreachable end
-> i64 | unreachable block:5 end
-> i64 | unreachable if:5 end
-> i64 | unreachable loop:5 end
-> i32 i64 | unreachable block end
-> i32 i64 | unreachable block:6 unreachable end
-> i64 | i32.const if:i64 unreachable else i64.const end
-> i64 | i32.const if:i64 i64.const else unreachable end
`)
	checkBodies(t, false, `
-> | block i32.const end
-> i32 | block i32.const end
-> | block:i32 i32.const end
-> i64 | block:i64 i32.const end
-> i32 | block:i32 end
-> i32 | block:i32 i32.const i32.const end
-> i32 | loop:i32 end
-> i32 | loop:i32 i64.const end
-> | loop i32.const end
# What is on the stack around isn't theirs, and what they open stays within.
-> i32 | i32.const block:i32 end
-> | i32.const block drop end
-> | i32.const loop drop end
-> | i32.const i32.const if drop else drop end
-> i32 | block unreachable end
-> | block unreachable end drop
-> | loop unreachable end drop
-> | i32.const if unreachable else unreachable end drop
-> | unreachable block drop end
-> i32 | unreachable block:i32 end
-> i64 | unreachable block:5 drop end
-> | block unreachable i32.const end
-> | unreachable i32.const if drop end
-> | i32.const if unreachable else drop end
# if: the operand, an else that is not there, and an else.
-> | if end
-> | i64.const if end
-> i32 | i32.const if:i32 i32.const end
-> i32 | i32.const if:i32 unreachable end
-> i32 i64 | i32.const if:6 i32.const i64.const end
-> | i32.const f32.const i32.const if:7 drop drop end
-> i32 | i32.const if:i32 i32.const else end
-> i32 | i32.const if:i32 else i32.const end
-> i32 | i32.const if:i32 i32.const else i64.const end
-> i32 | i32.const if:i32 i64.const else i32.const end
-> | i32.const if else i32.const end
-> | i32.const if i32.const else end
-> i64 | i32.const i64.const if:5 end
-> i64 | i64.const i32.const if:5 drop end
-> i64 | i64.const i32.const if:5 else drop end
# Types that there are not.
-> | block:8 end
-> | loop:8 end
-> | i32.const if:8 end
-> | unreachable block:4294967295 end
-> | block:8 unreachable end unreachable
# Parameters: too few, others, in the wrong order, left over.
-> | f32.const block:7 drop drop end
-> | f32.const i32.const block:7 drop drop end
-> | i32.const f32.const block:7 drop end
-> | i32.const f32.const loop:7 end
-> | i32.const f32.const block:7 drop drop drop end
-> i32 i64 | block:6 i64.const i32.const end
-> i64 | unreachable f32.const block:5 end
-> i32 f32 | i32.const f32.const i32.const f32.const block:7 drop end
`)
}

// P12.2: br, br_if, br_table and return.
func TestBranches(t *testing.T) {
	checkBodies(t, true, `
-> | br:0
-> i32 | i32.const br:0
-> i32 | i32.const br:0 i32.add
-> i32 | i64.const i32.const br:0
-> i32 | unreachable br:0
-> i32 | block i32.const br:1 end unreachable
-> i64 | block:i32 i64.const br:1 end drop unreachable
-> i32 | block:i32 i32.const br:0 end
-> | block br:0 end br:0
-> | i32.const f32.const loop:7 drop drop i32.const f32.const br:0 end
-> | loop br:0 end
-> | loop br:1 end
-> i32 | loop:i32 br:0 end
-> i64 | i64.const loop:5 br:0 end
-> i32 | i32.const if:i32 i32.const br:0 else i32.const br:1 end
-> i64 | i64.const i32.const if:5 br:0 else br:0 end
-> | block block block br:3 end end end
-> | i32.const br_if:0
-> i32 | i32.const i32.const br_if:0
-> f64 i32 | f64.const i32.const i32.const br_if:0
-> i64 | loop:i64 i32.const br_if:0 i64.const end
-> i32 | unreachable br_if:0
-> i64 | block:i64 i64.const i32.const br_if:0 end
-> | i32.const br_table:0
-> | i32.const br_table:0,0,0
-> i32 | i32.const i32.const br_table:0
-> | block block i32.const br_table:1,0,2 end end
-> i32 | block:i32 loop i32.const i32.const br_table:1,2 end unreachable end
-> i32 | unreachable br_table:0 i64.add drop
-> i32 | unreachable br_table:0
# The types of labels that are taken from an open stack may differ.
-> i32 | block:i64 unreachable br_table:0,1 end drop unreachable
-> i32 | block:f32 unreachable i32.const br_table:1,0 end drop unreachable
-> i32 i64 | unreachable block:3 unreachable br_table:0,1 end drop drop unreachable
-> i32 | block:i64 unreachable select i32.const br_table:0,1 end drop unreachable
-> | return
-> i32 | i32.const return
-> i32 | i64.const i32.const return
-> i32 | block i32.const return end unreachable
-> i32 | i32.const return i64.const drop i64.add drop
-> i32 | unreachable return
-> i32 f32 | loop:i64 i32.const f32.const return end drop unreachable
`)
	checkBodies(t, false, `
-> | br:1
-> | block br:2 end
-> | br:4294967295
-> i32 | br:0
-> i32 | i64.const br:0
-> i32 | block:i64 i64.const br:1 end drop i32.const
-> i32 i64 | i64.const i32.const br:0
-> i32 | block:i64 i32.const br:0 end drop i32.const
-> i32 | i32.const block br:1 end
-> i32 | unreachable i64.const br:0
-> i32 | i32.const br:0 i64.const
-> i32 | i32.const br:0 i32.const i32.const
-> | br:0 i32.const
-> i32 | i32.const br:0 i64.const i32.add
# The label of a loop has its parameters, those of the others their results.
-> | i32.const f32.const loop:7 drop drop br:0 end
-> | i32.const f32.const loop:7 br:0 end br:1
-> f64 v128 | i32.const f32.const block:3 br:0 end
-> i32 | block:i32 br:0 end
-> i32 | i32.const if:i32 br:0 else i32.const end
-> i32 | i32.const if:i32 i32.const else br:0 end
-> f64 v128 | i32.const f32.const loop:3 drop drop f64.const v128.const br:0 end
-> | br_if:0
-> | i64.const br_if:0
-> | i32.const br_if:1
-> i32 | i32.const br_if:0 i32.const
-> i32 | i32.const i32.const br_if:0 i32.const
-> i32 | i64.const i32.const br_if:0 drop i32.const
-> i32 | i32.const i32.const br_if:0 drop
-> | i32.const br_if:0 drop
-> i64 | unreachable br_if:0 i32.eqz drop i64.const
-> | loop i32.const i32.const br_if:0 end
-> | br_table:0
-> | i64.const br_table:0
-> | i32.const br_table:1
-> | i32.const br_table:0,1
-> | i32.const br_table:0,0,4294967295,0
-> i32 | i32.const br_table:0
-> i32 | i64.const i32.const br_table:0
-> i32 | block i32.const i32.const br_table:0,1 end unreachable
-> i32 | block i32.const i32.const br_table:1,0 end unreachable
-> i32 | block:i64 i32.const i32.const br_table:1,0 end drop unreachable
-> i32 | block:i64 i32.const i32.const br_table:0,1 end drop unreachable
-> i32 | block unreachable br_table:0,1 end unreachable
-> i32 | block unreachable br_table:1,0 end unreachable
-> i32 | block:i64 unreachable i32.const i32.const br_table:1,0 end drop unreachable
-> i32 | block:i64 unreachable i64.const br_table:0 end drop unreachable
-> i32 i64 | block:i32 unreachable br_table:0,1 end drop unreachable
-> | i32.const br_table:0 i32.const
-> i32 | return
-> i32 | i64.const return
-> i32 | block:i64 i64.const return end drop unreachable
-> i32 | i32.const block return end
-> i32 f32 | f32.const i32.const return
-> | return i32.const
-> i32 | i32.const return i64.const
`)
}

// P12.2: call and call_indirect.
func TestCalls(t *testing.T) {
	checkBodies(t, true, `
-> i64 | i32.const call:0
-> f64 v128 | i32.const f32.const call:2
-> extern func | ref.null:func ref.null:extern call:3
-> | call:4
i32 -> i32 | local.get:0 call:1
-> i64 | unreachable call:0
-> f64 v128 | unreachable f32.const call:2
-> i64 | unreachable call:5
-> i64 | i32.const i32.const call_indirect:2,1
-> f64 v128 | i32.const f32.const i32.const call_indirect:3,2
-> | i32.const call_indirect:1,1
-> i64 | unreachable call_indirect:2,1
`)
	checkBodies(t, false, `
-> i64 | call:0
-> i64 | i64.const call:0
-> f64 v128 | f32.const i32.const call:2
-> v128 f64 | i32.const f32.const call:2
-> f64 v128 | f32.const call:2
-> | i32.const call:0
-> | call:6
-> | unreachable call:4294967295
-> i64 | unreachable f32.const call:0
-> i32 | unreachable call:0
-> i64 | i32.const call_indirect:2,1
-> i64 | i64.const i32.const call_indirect:2,1
-> i64 | i32.const i64.const call_indirect:2,1
-> f64 v128 | i32.const i32.const f32.const call_indirect:3,2
-> | i32.const i32.const call_indirect:2,1
-> i64 | i32.const i32.const call_indirect:2,0
-> i64 | i32.const i32.const call_indirect:2,3
-> i64 | i32.const i32.const call_indirect:2,4
-> | i32.const call_indirect:8,1
-> | unreachable call_indirect:4294967295,1
-> | unreachable call_indirect:1,4294967295
`)
}

// P12.2: drop and both select.
func TestDropAndSelect(t *testing.T) {
	open, choose := code("unreachable"), code("select")
	// What this leaves on the stack is of any type.
	anything := code("unreachable i32.const select")
	for _, typ := range valueTypes {
		f, isNumber := api.FuncType{Results: []int{typ}}, slices.Contains(numberTypes, typ)
		chooseOf := func(types ...int) []api.Instr { return []api.Instr{{Op: 0x1c, L: types}} }
		checkIs(t, "drop", world(api.FuncType{}, nil, joined(values(typ), code("drop"))), api.OK)
		for _, second := range valueTypes {
			operands := values(typ, second, api.I32)
			checkIs(t, "select", world(f, nil, joined(operands, choose)), errnoOf(typ == second && isNumber))
			for _, told := range valueTypes {
				checkIs(t, "select with a type", world(f, nil, joined(operands, chooseOf(told))), errnoOf(typ == told && second == told))
			}
			checkIs(t, "select with two types", world(f, nil, joined(operands, chooseOf(typ, typ))), api.ErrInvalid)
			checkIs(t, "select with two types, open", world(api.FuncType{Results: []int{typ, second}}, nil, joined(open, chooseOf(typ, second))), api.ErrInvalid)
		}
		checkIs(t, "select with one operand", world(f, nil, joined(open, values(typ, api.I32), choose)), errnoOf(isNumber))
		checkIs(t, "select with one operand above anything", world(f, nil, joined(anything, values(typ, api.I32), choose)), errnoOf(isNumber))
		checkIs(t, "select without operands", world(f, nil, joined(open, choose)), api.OK)
		checkIs(t, "select with a type, without operands", world(f, nil, joined(open, chooseOf(typ))), api.OK)
		checkIs(t, "select with a type, above anything", world(f, nil, joined(anything, values(typ, api.I32), chooseOf(typ))), api.OK)
	}
	checkBodies(t, true, `
# What is left by a select whose operands are open is taken by any other instruction.
-> i32 | unreachable select i32.eqz
-> i32 | unreachable select i64.eqz
-> i32 | unreachable select ref.is_null
-> f64 | unreachable select i32.const select f64.neg
-> | unreachable select drop
-> func | unreachable select table.get:1
-> i64 | unreachable select call:0
-> i64 | unreachable select block:5 end
-> v128 f32 | unreachable select f32.const
-> extern | unreachable select return
-> i64 | unreachable i64.const i32.const select
-> i64 | unreachable i32.const select i64.add
`)
	checkBodies(t, false, `
-> | drop
-> | i32.const drop drop
-> i32 | i32.const select
-> i32 | i32.const i32.const select
-> i32 | i32.const i32.const i64.const select
-> i64 | i32.const i32.const i32.const select
-> i32 | unreachable i64.const select
-> i32 | unreachable i64.const i32.const select
-> i32 | unreachable f32.const i32.const i32.const select
-> | unreachable select
-> i32 i32 | unreachable select select i64.const
-> func | unreachable ref.null:func i32.const select
-> i32 | unreachable ref.null:extern i32.const select drop i32.const
-> i64 | unreachable i64.const i32.const select i32.eqz
-> i32 | i32.const i32.const i32.const select:
-> i32 | unreachable select:
-> i32 i32 | unreachable select:i32,i32
-> i32 | i32.const i32.const select:i32
-> i32 | unreachable i64.const select:i32
-> i32 | unreachable i64.const i32.const select:i32
-> i32 | unreachable i64.const i32.const i32.const select:i32
`)
}

// P12.2: locals and globals.
func TestVariables(t *testing.T) {
	checkBodies(t, true, `
i32 f32 -> i32 f32 i64 func ; i64 func | local.get:0 local.get:1 local.get:2 local.get:3
i32 f32 -> ; i64 func | i32.const local.set:0 f32.const local.set:1 i64.const local.set:2 ref.null:func local.set:3
i32 -> v128 ; v128 | v128.const local.tee:1
i32 -> i32 | i64.const i32.const local.tee:0 br:0
-> i32 ; i32 | unreachable local.tee:0
-> ; i32 | unreachable local.set:0
-> i64 f32 v128 func | global.get:0 global.get:1 global.get:2 global.get:3
-> | f32.const global.set:1 v128.const global.set:2
-> | unreachable global.set:1
`)
	checkBodies(t, false, `
-> i32 | local.get:0
i32 -> i32 ; i32 | local.get:2
i32 -> i32 | unreachable local.get:1
-> i32 | unreachable local.get:4294967295
i32 f32 -> f32 | local.get:0
i32 -> i32 ; i64 | local.get:1
i32 -> | local.get:0
i32 -> | local.set:0
i32 -> | i64.const local.set:0
i32 -> i32 | i32.const local.set:0
i32 -> | i32.const local.set:1
-> | unreachable local.set:0
i32 -> | unreachable i64.const local.set:0
i32 -> i32 | local.tee:0
i32 -> i32 | i64.const local.tee:0
i32 -> | i32.const local.tee:0
i32 -> i64 | i64.const local.tee:0
-> i32 | i32.const local.tee:0
-> i64 ; i32 | unreachable local.tee:0
-> f32 | global.get:0
-> | global.get:0
-> i64 | global.get:4
-> i64 | unreachable global.get:4294967295
-> | global.set:1
-> | i32.const global.set:1
-> | i64.const global.set:0
-> | ref.null:func global.set:3
-> | f32.const global.set:4
-> | unreachable global.set:4
-> | unreachable global.set:0
-> f32 | f32.const global.set:1
`)
}

// P12.2: tables and references.
func TestTables(t *testing.T) {
	checkBodies(t, true, `
-> extern | i32.const table.get:0
-> func | i32.const table.get:1
-> | i32.const ref.null:extern table.set:3
-> | i32.const ref.func:0 table.set:2
-> i32 | ref.null:extern i32.const table.grow:0
-> i32 | ref.null:func i32.const table.grow:1
-> i32 | table.size:3
-> | i32.const ref.null:extern i32.const table.fill:0
-> | i32.const ref.null:func i32.const table.fill:2
-> | i32.const i32.const i32.const table.copy:1,2
-> | i32.const i32.const i32.const table.copy:3,0
-> | i32.const i32.const i32.const table.copy:0,0
-> | i32.const i32.const i32.const table.init:0,1
-> | i32.const i32.const i32.const table.init:1,3
-> | elem.drop:0 elem.drop:1
-> func extern | ref.null:func ref.null:extern
-> i32 i32 | ref.null:func ref.is_null ref.null:extern ref.is_null
-> i32 | unreachable ref.is_null
-> func func func | ref.func:0 ref.func:2 ref.func:3
-> func | unreachable table.get:1
-> | unreachable table.set:0
-> i32 | unreachable table.grow:0
-> | unreachable table.fill:0
`)
	checkBodies(t, false, `
-> func | i32.const table.get:0
-> func | table.get:1
-> func | i64.const table.get:1
-> func | i32.const table.get:4
-> | i32.const table.get:1
-> func | unreachable table.get:4294967295
-> | ref.null:extern table.set:0
-> | ref.null:extern i32.const table.set:0
-> | i32.const ref.null:func table.set:0
-> | i32.const ref.null:extern table.set:1
-> | i32.const ref.null:extern table.set:4
-> i32 | i32.const ref.null:extern table.set:0
-> i32 | i32.const ref.null:extern table.grow:0
-> i32 | ref.null:func i32.const table.grow:0
-> i32 | ref.null:extern i64.const table.grow:0
-> | ref.null:extern i32.const table.grow:0
-> i32 | i32.const table.grow:0
-> i32 | unreachable table.grow:4
-> i32 | table.size:4
-> i64 | table.size:0
-> i32 | unreachable table.size:4294967295
-> | i32.const ref.null:func i32.const table.fill:0
-> | ref.null:extern i32.const i32.const table.fill:0
-> | i32.const i32.const ref.null:extern table.fill:0
-> | ref.null:extern i32.const table.fill:0
-> | unreachable table.fill:4
-> i32 | i32.const ref.null:extern i32.const table.fill:0
-> | i32.const i32.const i32.const table.copy:0,1
-> | i32.const i32.const i32.const table.copy:1,0
-> | i32.const i32.const i32.const table.copy:1,4
-> | i32.const i32.const i32.const table.copy:4,1
-> | unreachable table.copy:4,4
-> | i32.const i32.const table.copy:1,2
-> | i32.const i32.const i32.const table.init:0,0
-> | i32.const i32.const i32.const table.init:1,1
-> | i32.const i32.const i32.const table.init:2,1
-> | i32.const i32.const i32.const table.init:0,4
-> | unreachable table.init:2,4
-> | i32.const i32.const table.init:0,1
-> | elem.drop:2
-> | elem.drop:4294967295
-> func | ref.null:extern
-> extern | ref.null:func
-> | ref.null:func
-> i32 | ref.is_null
-> i64 | ref.null:func ref.is_null
-> i32 | i32.const ref.is_null
-> i32 | v128.const ref.is_null
-> i32 | unreachable i64.const ref.is_null
-> extern | ref.func:0
-> func | ref.func:1
-> func | ref.func:4
-> func | ref.func:5
-> func | ref.func:6
-> func | unreachable ref.func:4294967295
`)
}

// P12.2: memories and their segments.
func TestMemories(t *testing.T) {
	checkBodies(t, true, `
-> i32 | i32.const i32.load:0,4294967295
-> | i32.const i64.const i64.store:3,8
-> i32 | memory.size
-> i32 | i32.const memory.grow
-> | i32.const i32.const i32.const memory.fill
-> | i32.const i32.const i32.const memory.copy
-> | i32.const i32.const i32.const memory.init:0
-> | i32.const i32.const i32.const memory.init:1
-> | data.drop:0 data.drop:1
`)
	checkBodies(t, false, `
-> i64 | i32.const i32.load
-> i32 | i64.const i32.load
-> | i64.const i32.const i64.store
-> i64 | memory.size
-> i32 | memory.grow
-> | i32.const i32.const memory.fill
-> | i32.const i32.const i32.const memory.init:2
-> | unreachable memory.init:4294967295
-> | data.drop:2
-> | data.drop:4294967295
`)
	// By hand: the numbers of bytes, as powers of 2.
	for name, power := range map[string]int{
		"i32.load": 2, "i64.load": 3, "f32.load": 2, "f64.load": 3, "i32.load8_s": 0, "i32.load16_u": 1, "i64.load8_u": 0, "i64.load16_s": 1, "i64.load32_u": 2, "i32.store": 2, "f64.store": 3, "i32.store8": 0, "i32.store16": 1, "i64.store8": 0, "i64.store16": 1, "i64.store32": 2,
		"v128.load": 4, "v128.store": 4, "v128.load8x8_s": 3, "v128.load32x2_u": 3, "v128.load8_splat": 0, "v128.load64_splat": 3, "v128.load32_zero": 2, "v128.load64_zero": 3,
	} {
		for a := range 7 {
			checkIs(t, name+":"+strconv.Itoa(a), world(api.FuncType{}, nil, code("unreachable "+name+":"+strconv.Itoa(a)+",9 unreachable")), errnoOf(a <= power))
		}
		checkIs(t, name, world(api.FuncType{}, nil, code("unreachable "+name+":4294967295 unreachable")), api.ErrInvalid)
	}
	for i, name := range []string{"v128.load8_lane", "v128.load16_lane", "v128.load32_lane", "v128.load64_lane", "v128.store8_lane", "v128.store16_lane", "v128.store32_lane", "v128.store64_lane"} {
		for a := range 6 {
			for lane := range 18 {
				text := name + ":" + strconv.Itoa(a) + "," + strconv.Itoa(lane)
				checkIs(t, text, world(api.FuncType{}, nil, code("unreachable "+text+" unreachable")), errnoOf(a <= i%4 && lane < 16>>(i%4)))
			}
		}
	}
}

// P12.2: lanes, by hand.
func TestLanes(t *testing.T) {
	for name, count := range map[string]int{
		"i8x16.extract_lane_s": 16, "i8x16.extract_lane_u": 16, "i8x16.replace_lane": 16, "i16x8.extract_lane_s": 8, "i16x8.extract_lane_u": 8, "i16x8.replace_lane": 8, "i32x4.extract_lane": 4,
		"i32x4.replace_lane": 4, "i64x2.extract_lane": 2, "i64x2.replace_lane": 2, "f32x4.extract_lane": 4, "f32x4.replace_lane": 4, "f64x2.extract_lane": 2, "f64x2.replace_lane": 2,
	} {
		for lane := range 256 {
			text := name + ":" + strconv.Itoa(lane)
			checkIs(t, text, world(api.FuncType{}, nil, code("unreachable "+text+" unreachable")), errnoOf(lane < count))
		}
	}
	for place := range 16 {
		for lane := range 256 {
			chosen := []int{31, 0, 1, 31, 2, 3, 4, 30, 16, 15, 14, 8, 9, 31, 31, 31}
			chosen[place] = lane
			l := code("v128.const v128.const i8x16.shuffle drop")
			l[2].L = chosen
			checkIs(t, "i8x16.shuffle with "+strconv.Itoa(lane), world(api.FuncType{}, nil, l), errnoOf(lane < 32))
		}
	}
}

// sample is an instruction with operands that are valid in the world.
func sample(op int) api.Instr {
	in := api.Instr{Op: op}
	switch ops.Imm(op) {
	case ops.ImmElemTab, ops.ImmTabs:
		in.B = 1
		if op == 0xfc00+14 {
			in.A = 2
		}
	case ops.ImmShuffle:
		in.L = make([]int, 16)
	case ops.ImmMemLane:
		in.L = []int{0}
	}
	return in
}

// joined is a list of all elements of some.
func joined(l ...[]api.Instr) []api.Instr { return slices.Concat(l...) }

// P12.2: each instruction with fixed types takes and leaves them, and nothing else.
func TestFixedTypes(t *testing.T) {
	count := 0
	for _, op := range known {
		takes, leaves, fixed := ops.Sign(op)
		if !fixed {
			continue
		}
		count++
		name, in, f := ops.Name(op), []api.Instr{sample(op)}, api.FuncType{Results: leaves}
		checkIs(t, name, world(f, nil, joined(values(takes...), in)), api.OK)
		checkIs(t, name+" with one value more", world(f, nil, joined(values(api.I32), values(takes...), in)), api.ErrInvalid)
		checkIs(t, name+" and one value more", world(f, nil, joined(values(takes...), in, values(api.I32))), api.ErrInvalid)
		checkIs(t, name+" in the open", world(f, nil, joined(code("unreachable"), in)), api.OK)
		checkIs(t, name+" behind one value more", world(f, nil, joined(code("unreachable"), values(api.F32), values(takes...), in)), api.ErrInvalid)
		for i := range takes {
			checkIs(t, name+" with too few values", world(f, nil, joined(values(takes[i+1:]...), in)), api.ErrInvalid)
			checkIs(t, name+" in the open, with some values", world(f, nil, joined(code("unreachable"), values(takes[i+1:]...), in)), api.OK)
			for _, typ := range valueTypes {
				others := slices.Clone(takes)
				others[i] = typ
				is := errnoOf(typ == takes[i])
				checkIs(t, name+" with other values", world(f, nil, joined(values(others...), in)), is)
				checkIs(t, name+" in the open, with other values", world(f, nil, joined(code("unreachable"), values(others[i:]...), in)), is)
			}
		}
		for i := range leaves {
			checkIs(t, name+", with fewer results", world(api.FuncType{Results: leaves[i+1:]}, nil, joined(values(takes...), in)), api.ErrInvalid)
			for _, typ := range valueTypes {
				others := api.FuncType{Results: slices.Clone(leaves)}
				others.Results[i] = typ
				checkIs(t, name+", with other results", world(others, nil, joined(values(takes...), in)), errnoOf(typ == leaves[i]))
			}
		}
	}
	if count != 411 {
		t.Error("there are", count, "instructions with fixed types")
	}
}

// P12.2: the instructions that require a memory, and no others.
func TestWithoutMemory(t *testing.T) {
	for _, op := range known {
		takes, leaves, fixed := ops.Sign(op)
		if !fixed {
			continue
		}
		kind := ops.Imm(op)
		asks := kind == ops.ImmMem || kind == ops.ImmMemLane || slices.Contains([]string{"memory.size", "memory.grow", "memory.fill", "memory.copy", "memory.init"}, ops.Name(op))
		m := world(api.FuncType{Results: leaves}, nil, joined(values(takes...), []api.Instr{sample(op)}))
		m.Mems, m.Exports, m.Datas = nil, m.Exports[:2], m.Datas[:1]
		checkIs(t, ops.Name(op)+" without a memory", m, errnoOf(!asks))
		m.Imports = append(m.Imports, api.Import{Kind: api.Mem})
		checkIs(t, ops.Name(op)+" with an imported memory", m, api.OK)
	}
}

// P12.2: alignments and lanes of each instruction, at their bounds.
func TestOperandBounds(t *testing.T) {
	for _, op := range known {
		if power := ops.Align(op); power >= 0 {
			for _, a := range []int{0, power, power + 1, 64, 1<<32 - 1} {
				in := sample(op)
				in.A, in.B = a, 1<<32-1
				checkIs(t, ops.Name(op)+" with alignment "+strconv.Itoa(a), world(api.FuncType{}, nil, joined(code("unreachable"), []api.Instr{in}, code("unreachable"))), errnoOf(a <= power))
			}
		}
		if count := ops.Lanes(op); count > 0 {
			for _, lane := range []int{0, count - 1, count, 255} {
				in := sample(op)
				if len(in.L) > 0 {
					in.L[len(in.L)-1] = lane
				} else {
					in.A = lane
				}
				checkIs(t, ops.Name(op)+" with lane "+strconv.Itoa(lane), world(api.FuncType{}, nil, joined(code("unreachable"), []api.Instr{in}, code("unreachable"))), errnoOf(lane < count))
			}
		}
	}
}
