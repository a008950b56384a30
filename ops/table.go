package ops

import "bodkin/api"

// The numbers of the instructions behind a prefix begin at these.
const (
	fc = 0xfc00
	fd = 0xfd00
)

// The lists of types that instructions take or leave; open is one that is not fixed.
const (
	open = iota
	none
	i32
	i64
	f32
	f64
	v128
	funcref
	i32i32
	i32i64
	i32f32
	i32f64
	i32v128
	i64i64
	f32f32
	f64f64
	v128i32
	v128i64
	v128f32
	v128f64
	v128v128
	i32i32i32
	v128v128v128
)

// lists are their types; a list has no 0.
var lists = [...][3]int{
	i32:          {api.I32},
	i64:          {api.I64},
	f32:          {api.F32},
	f64:          {api.F64},
	v128:         {api.V128},
	funcref:      {api.FuncRef},
	i32i32:       {api.I32, api.I32},
	i32i64:       {api.I32, api.I64},
	i32f32:       {api.I32, api.F32},
	i32f64:       {api.I32, api.F64},
	i32v128:      {api.I32, api.V128},
	i64i64:       {api.I64, api.I64},
	f32f32:       {api.F32, api.F32},
	f64f64:       {api.F64, api.F64},
	v128i32:      {api.V128, api.I32},
	v128i64:      {api.V128, api.I64},
	v128f32:      {api.V128, api.F32},
	v128f64:      {api.V128, api.F64},
	v128v128:     {api.V128, api.V128},
	i32i32i32:    {api.I32, api.I32, api.I32},
	v128v128v128: {api.V128, api.V128, api.V128},
}

// line is a line of the table; the zero value is that of a number without an instruction. Its numbers are small because a line is then handed up in registers.
type line struct {
	name               string
	imm, takes, leaves uint8
}

// known tells whether there is such an instruction.
func (l line) known() bool { return l.name != "" }

// fixed tells whether there is such an instruction, and its types are fixed.
func (l line) fixed() bool { return l.takes != open }

// typesOf is the types of a list.
func typesOf(list uint8) []int {
	var out []int
	for i := 0; i < 3 && lists[list][i] != 0; i++ {
		out = append(out, lists[list][i])
	}
	return out
}

// lineOf is the table's line of a number.
func lineOf(op int) line {
	switch {
	case op < 0:
		return line{}
	case op < 0xd3:
		return plain(op)
	case fc <= op && op < fc+18:
		return bulk(op - fc)
	case fd <= op && op < fd+256:
		return vector(op - fd)
	}
	return line{}
}

// plain is the line of an instruction without a prefix.
func plain(op int) line {
	switch {
	case op < 0x28:
		return control(op)
	case op < 0x45:
		return memory(op - 0x28)
	case op < 0x67:
		return comparison(op - 0x45)
	case op < 0x8b:
		return integer(op - 0x67)
	case op < 0xa7:
		return float(op - 0x8b)
	case op < 0xc5:
		return conversion(op - 0xa7)
	case 0xd0 <= op:
		return reference(op - 0xd0)
	}
	return line{}
}

// vector is the line of an instruction behind the prefix fd.
func vector(sub int) line {
	switch {
	case sub < 14:
		return vectorMemory(sub)
	case sub < 35:
		return vectorLane(sub - 14)
	case sub < 77:
		return vectorComparison(sub - 35)
	case sub < 96:
		return vectorBits(sub - 77)
	case sub < 128:
		return vectorBytes(sub - 96)
	case sub < 160:
		return vectorShorts(sub - 128)
	case sub < 192:
		return vectorWords(sub - 160)
	case sub < 224:
		return vectorLongs(sub - 192)
	}
	return vectorFloats(sub - 224)
}

// control is the lines from 00 on: blocks, branches, calls, and what reads and writes locals, globals and tables.
func control(i int) line {
	return [0x28]line{
		0x00: {"unreachable", ImmNone, open, open},
		0x01: {"nop", ImmNone, none, none},
		0x02: {"block", ImmBlock, open, open},
		0x03: {"loop", ImmBlock, open, open},
		0x04: {"if", ImmBlock, open, open},
		0x0c: {"br", ImmLabel, open, open},
		0x0d: {"br_if", ImmLabel, open, open},
		0x0e: {"br_table", ImmTable, open, open},
		0x0f: {"return", ImmNone, open, open},
		0x10: {"call", ImmFunc, open, open},
		0x11: {"call_indirect", ImmIndirect, open, open},
		0x1a: {"drop", ImmNone, open, open},
		0x1b: {"select", ImmNone, open, open},
		0x1c: {"select", ImmSelect, open, open},
		0x20: {"local.get", ImmLocal, open, open},
		0x21: {"local.set", ImmLocal, open, open},
		0x22: {"local.tee", ImmLocal, open, open},
		0x23: {"global.get", ImmGlobal, open, open},
		0x24: {"global.set", ImmGlobal, open, open},
		0x25: {"table.get", ImmTab, open, open},
		0x26: {"table.set", ImmTab, open, open},
	}[i]
}

// memory is the lines from 28 on: what reads and writes memories, and constants.
func memory(i int) line {
	return [0x45 - 0x28]line{
		{"i32.load", ImmMem, i32, i32},
		{"i64.load", ImmMem, i32, i64},
		{"f32.load", ImmMem, i32, f32},
		{"f64.load", ImmMem, i32, f64},
		{"i32.load8_s", ImmMem, i32, i32},
		{"i32.load8_u", ImmMem, i32, i32},
		{"i32.load16_s", ImmMem, i32, i32},
		{"i32.load16_u", ImmMem, i32, i32},
		{"i64.load8_s", ImmMem, i32, i64},
		{"i64.load8_u", ImmMem, i32, i64},
		{"i64.load16_s", ImmMem, i32, i64},
		{"i64.load16_u", ImmMem, i32, i64},
		{"i64.load32_s", ImmMem, i32, i64},
		{"i64.load32_u", ImmMem, i32, i64},
		{"i32.store", ImmMem, i32i32, none},
		{"i64.store", ImmMem, i32i64, none},
		{"f32.store", ImmMem, i32f32, none},
		{"f64.store", ImmMem, i32f64, none},
		{"i32.store8", ImmMem, i32i32, none},
		{"i32.store16", ImmMem, i32i32, none},
		{"i64.store8", ImmMem, i32i64, none},
		{"i64.store16", ImmMem, i32i64, none},
		{"i64.store32", ImmMem, i32i64, none},
		{"memory.size", ImmZero, none, i32},
		{"memory.grow", ImmZero, i32, i32},
		{"i32.const", ImmI32, none, i32},
		{"i64.const", ImmI64, none, i64},
		{"f32.const", ImmF32, none, f32},
		{"f64.const", ImmF64, none, f64},
	}[i]
}

// comparison is the lines from 45 on.
func comparison(i int) line {
	return [0x67 - 0x45]line{
		{"i32.eqz", ImmNone, i32, i32},
		{"i32.eq", ImmNone, i32i32, i32},
		{"i32.ne", ImmNone, i32i32, i32},
		{"i32.lt_s", ImmNone, i32i32, i32},
		{"i32.lt_u", ImmNone, i32i32, i32},
		{"i32.gt_s", ImmNone, i32i32, i32},
		{"i32.gt_u", ImmNone, i32i32, i32},
		{"i32.le_s", ImmNone, i32i32, i32},
		{"i32.le_u", ImmNone, i32i32, i32},
		{"i32.ge_s", ImmNone, i32i32, i32},
		{"i32.ge_u", ImmNone, i32i32, i32},
		{"i64.eqz", ImmNone, i64, i32},
		{"i64.eq", ImmNone, i64i64, i32},
		{"i64.ne", ImmNone, i64i64, i32},
		{"i64.lt_s", ImmNone, i64i64, i32},
		{"i64.lt_u", ImmNone, i64i64, i32},
		{"i64.gt_s", ImmNone, i64i64, i32},
		{"i64.gt_u", ImmNone, i64i64, i32},
		{"i64.le_s", ImmNone, i64i64, i32},
		{"i64.le_u", ImmNone, i64i64, i32},
		{"i64.ge_s", ImmNone, i64i64, i32},
		{"i64.ge_u", ImmNone, i64i64, i32},
		{"f32.eq", ImmNone, f32f32, i32},
		{"f32.ne", ImmNone, f32f32, i32},
		{"f32.lt", ImmNone, f32f32, i32},
		{"f32.gt", ImmNone, f32f32, i32},
		{"f32.le", ImmNone, f32f32, i32},
		{"f32.ge", ImmNone, f32f32, i32},
		{"f64.eq", ImmNone, f64f64, i32},
		{"f64.ne", ImmNone, f64f64, i32},
		{"f64.lt", ImmNone, f64f64, i32},
		{"f64.gt", ImmNone, f64f64, i32},
		{"f64.le", ImmNone, f64f64, i32},
		{"f64.ge", ImmNone, f64f64, i32},
	}[i]
}

// integer is the lines from 67 on: arithmetic of integers.
func integer(i int) line {
	return [0x8b - 0x67]line{
		{"i32.clz", ImmNone, i32, i32},
		{"i32.ctz", ImmNone, i32, i32},
		{"i32.popcnt", ImmNone, i32, i32},
		{"i32.add", ImmNone, i32i32, i32},
		{"i32.sub", ImmNone, i32i32, i32},
		{"i32.mul", ImmNone, i32i32, i32},
		{"i32.div_s", ImmNone, i32i32, i32},
		{"i32.div_u", ImmNone, i32i32, i32},
		{"i32.rem_s", ImmNone, i32i32, i32},
		{"i32.rem_u", ImmNone, i32i32, i32},
		{"i32.and", ImmNone, i32i32, i32},
		{"i32.or", ImmNone, i32i32, i32},
		{"i32.xor", ImmNone, i32i32, i32},
		{"i32.shl", ImmNone, i32i32, i32},
		{"i32.shr_s", ImmNone, i32i32, i32},
		{"i32.shr_u", ImmNone, i32i32, i32},
		{"i32.rotl", ImmNone, i32i32, i32},
		{"i32.rotr", ImmNone, i32i32, i32},
		{"i64.clz", ImmNone, i64, i64},
		{"i64.ctz", ImmNone, i64, i64},
		{"i64.popcnt", ImmNone, i64, i64},
		{"i64.add", ImmNone, i64i64, i64},
		{"i64.sub", ImmNone, i64i64, i64},
		{"i64.mul", ImmNone, i64i64, i64},
		{"i64.div_s", ImmNone, i64i64, i64},
		{"i64.div_u", ImmNone, i64i64, i64},
		{"i64.rem_s", ImmNone, i64i64, i64},
		{"i64.rem_u", ImmNone, i64i64, i64},
		{"i64.and", ImmNone, i64i64, i64},
		{"i64.or", ImmNone, i64i64, i64},
		{"i64.xor", ImmNone, i64i64, i64},
		{"i64.shl", ImmNone, i64i64, i64},
		{"i64.shr_s", ImmNone, i64i64, i64},
		{"i64.shr_u", ImmNone, i64i64, i64},
		{"i64.rotl", ImmNone, i64i64, i64},
		{"i64.rotr", ImmNone, i64i64, i64},
	}[i]
}

// float is the lines from 8b on: arithmetic of floats.
func float(i int) line {
	return [0xa7 - 0x8b]line{
		{"f32.abs", ImmNone, f32, f32},
		{"f32.neg", ImmNone, f32, f32},
		{"f32.ceil", ImmNone, f32, f32},
		{"f32.floor", ImmNone, f32, f32},
		{"f32.trunc", ImmNone, f32, f32},
		{"f32.nearest", ImmNone, f32, f32},
		{"f32.sqrt", ImmNone, f32, f32},
		{"f32.add", ImmNone, f32f32, f32},
		{"f32.sub", ImmNone, f32f32, f32},
		{"f32.mul", ImmNone, f32f32, f32},
		{"f32.div", ImmNone, f32f32, f32},
		{"f32.min", ImmNone, f32f32, f32},
		{"f32.max", ImmNone, f32f32, f32},
		{"f32.copysign", ImmNone, f32f32, f32},
		{"f64.abs", ImmNone, f64, f64},
		{"f64.neg", ImmNone, f64, f64},
		{"f64.ceil", ImmNone, f64, f64},
		{"f64.floor", ImmNone, f64, f64},
		{"f64.trunc", ImmNone, f64, f64},
		{"f64.nearest", ImmNone, f64, f64},
		{"f64.sqrt", ImmNone, f64, f64},
		{"f64.add", ImmNone, f64f64, f64},
		{"f64.sub", ImmNone, f64f64, f64},
		{"f64.mul", ImmNone, f64f64, f64},
		{"f64.div", ImmNone, f64f64, f64},
		{"f64.min", ImmNone, f64f64, f64},
		{"f64.max", ImmNone, f64f64, f64},
		{"f64.copysign", ImmNone, f64f64, f64},
	}[i]
}

// conversion is the lines from a7 on: numbers as numbers of other types.
func conversion(i int) line {
	return [0xc5 - 0xa7]line{
		{"i32.wrap_i64", ImmNone, i64, i32},
		{"i32.trunc_f32_s", ImmNone, f32, i32},
		{"i32.trunc_f32_u", ImmNone, f32, i32},
		{"i32.trunc_f64_s", ImmNone, f64, i32},
		{"i32.trunc_f64_u", ImmNone, f64, i32},
		{"i64.extend_i32_s", ImmNone, i32, i64},
		{"i64.extend_i32_u", ImmNone, i32, i64},
		{"i64.trunc_f32_s", ImmNone, f32, i64},
		{"i64.trunc_f32_u", ImmNone, f32, i64},
		{"i64.trunc_f64_s", ImmNone, f64, i64},
		{"i64.trunc_f64_u", ImmNone, f64, i64},
		{"f32.convert_i32_s", ImmNone, i32, f32},
		{"f32.convert_i32_u", ImmNone, i32, f32},
		{"f32.convert_i64_s", ImmNone, i64, f32},
		{"f32.convert_i64_u", ImmNone, i64, f32},
		{"f32.demote_f64", ImmNone, f64, f32},
		{"f64.convert_i32_s", ImmNone, i32, f64},
		{"f64.convert_i32_u", ImmNone, i32, f64},
		{"f64.convert_i64_s", ImmNone, i64, f64},
		{"f64.convert_i64_u", ImmNone, i64, f64},
		{"f64.promote_f32", ImmNone, f32, f64},
		{"i32.reinterpret_f32", ImmNone, f32, i32},
		{"i64.reinterpret_f64", ImmNone, f64, i64},
		{"f32.reinterpret_i32", ImmNone, i32, f32},
		{"f64.reinterpret_i64", ImmNone, i64, f64},
		{"i32.extend8_s", ImmNone, i32, i32},
		{"i32.extend16_s", ImmNone, i32, i32},
		{"i64.extend8_s", ImmNone, i64, i64},
		{"i64.extend16_s", ImmNone, i64, i64},
		{"i64.extend32_s", ImmNone, i64, i64},
	}[i]
}

// reference is the lines from d0 on.
func reference(i int) line {
	return [0xd3 - 0xd0]line{
		{"ref.null", ImmRef, open, open},
		{"ref.is_null", ImmNone, open, open},
		{"ref.func", ImmFunc, none, funcref},
	}[i]
}

// bulk is the lines from fc 0 on: floats as the nearest integers, and what works on many places of memories and tables.
func bulk(i int) line {
	return [18]line{
		{"i32.trunc_sat_f32_s", ImmNone, f32, i32},
		{"i32.trunc_sat_f32_u", ImmNone, f32, i32},
		{"i32.trunc_sat_f64_s", ImmNone, f64, i32},
		{"i32.trunc_sat_f64_u", ImmNone, f64, i32},
		{"i64.trunc_sat_f32_s", ImmNone, f32, i64},
		{"i64.trunc_sat_f32_u", ImmNone, f32, i64},
		{"i64.trunc_sat_f64_s", ImmNone, f64, i64},
		{"i64.trunc_sat_f64_u", ImmNone, f64, i64},
		{"memory.init", ImmDataMem, i32i32i32, none},
		{"data.drop", ImmData, none, none},
		{"memory.copy", ImmZeros, i32i32i32, none},
		{"memory.fill", ImmZero, i32i32i32, none},
		{"table.init", ImmElemTab, i32i32i32, none},
		{"elem.drop", ImmElem, none, none},
		{"table.copy", ImmTabs, i32i32i32, none},
		{"table.grow", ImmTab, open, open},
		{"table.size", ImmTab, none, i32},
		{"table.fill", ImmTab, open, open},
	}[i]
}

// vectorMemory is the lines from fd 0 on: what reads and writes memories, constants, and the shuffle.
func vectorMemory(i int) line {
	return [14]line{
		{"v128.load", ImmMem, i32, v128},
		{"v128.load8x8_s", ImmMem, i32, v128},
		{"v128.load8x8_u", ImmMem, i32, v128},
		{"v128.load16x4_s", ImmMem, i32, v128},
		{"v128.load16x4_u", ImmMem, i32, v128},
		{"v128.load32x2_s", ImmMem, i32, v128},
		{"v128.load32x2_u", ImmMem, i32, v128},
		{"v128.load8_splat", ImmMem, i32, v128},
		{"v128.load16_splat", ImmMem, i32, v128},
		{"v128.load32_splat", ImmMem, i32, v128},
		{"v128.load64_splat", ImmMem, i32, v128},
		{"v128.store", ImmMem, i32v128, none},
		{"v128.const", ImmV128, none, v128},
		{"i8x16.shuffle", ImmShuffle, v128v128, v128},
	}[i]
}

// vectorLane is the lines from fd 14 on: numbers as lanes, and lanes as numbers.
func vectorLane(i int) line {
	return [35 - 14]line{
		{"i8x16.swizzle", ImmNone, v128v128, v128},
		{"i8x16.splat", ImmNone, i32, v128},
		{"i16x8.splat", ImmNone, i32, v128},
		{"i32x4.splat", ImmNone, i32, v128},
		{"i64x2.splat", ImmNone, i64, v128},
		{"f32x4.splat", ImmNone, f32, v128},
		{"f64x2.splat", ImmNone, f64, v128},
		{"i8x16.extract_lane_s", ImmLane, v128, i32},
		{"i8x16.extract_lane_u", ImmLane, v128, i32},
		{"i8x16.replace_lane", ImmLane, v128i32, v128},
		{"i16x8.extract_lane_s", ImmLane, v128, i32},
		{"i16x8.extract_lane_u", ImmLane, v128, i32},
		{"i16x8.replace_lane", ImmLane, v128i32, v128},
		{"i32x4.extract_lane", ImmLane, v128, i32},
		{"i32x4.replace_lane", ImmLane, v128i32, v128},
		{"i64x2.extract_lane", ImmLane, v128, i64},
		{"i64x2.replace_lane", ImmLane, v128i64, v128},
		{"f32x4.extract_lane", ImmLane, v128, f32},
		{"f32x4.replace_lane", ImmLane, v128f32, v128},
		{"f64x2.extract_lane", ImmLane, v128, f64},
		{"f64x2.replace_lane", ImmLane, v128f64, v128},
	}[i]
}

// vectorComparison is the lines from fd 35 on.
func vectorComparison(i int) line {
	return [77 - 35]line{
		{"i8x16.eq", ImmNone, v128v128, v128},
		{"i8x16.ne", ImmNone, v128v128, v128},
		{"i8x16.lt_s", ImmNone, v128v128, v128},
		{"i8x16.lt_u", ImmNone, v128v128, v128},
		{"i8x16.gt_s", ImmNone, v128v128, v128},
		{"i8x16.gt_u", ImmNone, v128v128, v128},
		{"i8x16.le_s", ImmNone, v128v128, v128},
		{"i8x16.le_u", ImmNone, v128v128, v128},
		{"i8x16.ge_s", ImmNone, v128v128, v128},
		{"i8x16.ge_u", ImmNone, v128v128, v128},
		{"i16x8.eq", ImmNone, v128v128, v128},
		{"i16x8.ne", ImmNone, v128v128, v128},
		{"i16x8.lt_s", ImmNone, v128v128, v128},
		{"i16x8.lt_u", ImmNone, v128v128, v128},
		{"i16x8.gt_s", ImmNone, v128v128, v128},
		{"i16x8.gt_u", ImmNone, v128v128, v128},
		{"i16x8.le_s", ImmNone, v128v128, v128},
		{"i16x8.le_u", ImmNone, v128v128, v128},
		{"i16x8.ge_s", ImmNone, v128v128, v128},
		{"i16x8.ge_u", ImmNone, v128v128, v128},
		{"i32x4.eq", ImmNone, v128v128, v128},
		{"i32x4.ne", ImmNone, v128v128, v128},
		{"i32x4.lt_s", ImmNone, v128v128, v128},
		{"i32x4.lt_u", ImmNone, v128v128, v128},
		{"i32x4.gt_s", ImmNone, v128v128, v128},
		{"i32x4.gt_u", ImmNone, v128v128, v128},
		{"i32x4.le_s", ImmNone, v128v128, v128},
		{"i32x4.le_u", ImmNone, v128v128, v128},
		{"i32x4.ge_s", ImmNone, v128v128, v128},
		{"i32x4.ge_u", ImmNone, v128v128, v128},
		{"f32x4.eq", ImmNone, v128v128, v128},
		{"f32x4.ne", ImmNone, v128v128, v128},
		{"f32x4.lt", ImmNone, v128v128, v128},
		{"f32x4.gt", ImmNone, v128v128, v128},
		{"f32x4.le", ImmNone, v128v128, v128},
		{"f32x4.ge", ImmNone, v128v128, v128},
		{"f64x2.eq", ImmNone, v128v128, v128},
		{"f64x2.ne", ImmNone, v128v128, v128},
		{"f64x2.lt", ImmNone, v128v128, v128},
		{"f64x2.gt", ImmNone, v128v128, v128},
		{"f64x2.le", ImmNone, v128v128, v128},
		{"f64x2.ge", ImmNone, v128v128, v128},
	}[i]
}

// vectorBits is the lines from fd 77 on: arithmetic of all bits at once, lanes from and to memories, and floats of the other width.
func vectorBits(i int) line {
	return [96 - 77]line{
		{"v128.not", ImmNone, v128, v128},
		{"v128.and", ImmNone, v128v128, v128},
		{"v128.andnot", ImmNone, v128v128, v128},
		{"v128.or", ImmNone, v128v128, v128},
		{"v128.xor", ImmNone, v128v128, v128},
		{"v128.bitselect", ImmNone, v128v128v128, v128},
		{"v128.any_true", ImmNone, v128, i32},
		{"v128.load8_lane", ImmMemLane, i32v128, v128},
		{"v128.load16_lane", ImmMemLane, i32v128, v128},
		{"v128.load32_lane", ImmMemLane, i32v128, v128},
		{"v128.load64_lane", ImmMemLane, i32v128, v128},
		{"v128.store8_lane", ImmMemLane, i32v128, none},
		{"v128.store16_lane", ImmMemLane, i32v128, none},
		{"v128.store32_lane", ImmMemLane, i32v128, none},
		{"v128.store64_lane", ImmMemLane, i32v128, none},
		{"v128.load32_zero", ImmMem, i32, v128},
		{"v128.load64_zero", ImmMem, i32, v128},
		{"f32x4.demote_f64x2_zero", ImmNone, v128, v128},
		{"f64x2.promote_low_f32x4", ImmNone, v128, v128},
	}[i]
}

// vectorBytes is the lines from fd 96 on: lanes of 8 bits, and what stands among them.
func vectorBytes(i int) line {
	return [128 - 96]line{
		{"i8x16.abs", ImmNone, v128, v128},
		{"i8x16.neg", ImmNone, v128, v128},
		{"i8x16.popcnt", ImmNone, v128, v128},
		{"i8x16.all_true", ImmNone, v128, i32},
		{"i8x16.bitmask", ImmNone, v128, i32},
		{"i8x16.narrow_i16x8_s", ImmNone, v128v128, v128},
		{"i8x16.narrow_i16x8_u", ImmNone, v128v128, v128},
		{"f32x4.ceil", ImmNone, v128, v128},
		{"f32x4.floor", ImmNone, v128, v128},
		{"f32x4.trunc", ImmNone, v128, v128},
		{"f32x4.nearest", ImmNone, v128, v128},
		{"i8x16.shl", ImmNone, v128i32, v128},
		{"i8x16.shr_s", ImmNone, v128i32, v128},
		{"i8x16.shr_u", ImmNone, v128i32, v128},
		{"i8x16.add", ImmNone, v128v128, v128},
		{"i8x16.add_sat_s", ImmNone, v128v128, v128},
		{"i8x16.add_sat_u", ImmNone, v128v128, v128},
		{"i8x16.sub", ImmNone, v128v128, v128},
		{"i8x16.sub_sat_s", ImmNone, v128v128, v128},
		{"i8x16.sub_sat_u", ImmNone, v128v128, v128},
		{"f64x2.ceil", ImmNone, v128, v128},
		{"f64x2.floor", ImmNone, v128, v128},
		{"i8x16.min_s", ImmNone, v128v128, v128},
		{"i8x16.min_u", ImmNone, v128v128, v128},
		{"i8x16.max_s", ImmNone, v128v128, v128},
		{"i8x16.max_u", ImmNone, v128v128, v128},
		{"f64x2.trunc", ImmNone, v128, v128},
		{"i8x16.avgr_u", ImmNone, v128v128, v128},
		{"i16x8.extadd_pairwise_i8x16_s", ImmNone, v128, v128},
		{"i16x8.extadd_pairwise_i8x16_u", ImmNone, v128, v128},
		{"i32x4.extadd_pairwise_i16x8_s", ImmNone, v128, v128},
		{"i32x4.extadd_pairwise_i16x8_u", ImmNone, v128, v128},
	}[i]
}

// vectorShorts is the lines from fd 128 on: lanes of 16 bits, and what stands among them.
func vectorShorts(i int) line {
	return [160 - 128]line{
		{"i16x8.abs", ImmNone, v128, v128},
		{"i16x8.neg", ImmNone, v128, v128},
		{"i16x8.q15mulr_sat_s", ImmNone, v128v128, v128},
		{"i16x8.all_true", ImmNone, v128, i32},
		{"i16x8.bitmask", ImmNone, v128, i32},
		{"i16x8.narrow_i32x4_s", ImmNone, v128v128, v128},
		{"i16x8.narrow_i32x4_u", ImmNone, v128v128, v128},
		{"i16x8.extend_low_i8x16_s", ImmNone, v128, v128},
		{"i16x8.extend_high_i8x16_s", ImmNone, v128, v128},
		{"i16x8.extend_low_i8x16_u", ImmNone, v128, v128},
		{"i16x8.extend_high_i8x16_u", ImmNone, v128, v128},
		{"i16x8.shl", ImmNone, v128i32, v128},
		{"i16x8.shr_s", ImmNone, v128i32, v128},
		{"i16x8.shr_u", ImmNone, v128i32, v128},
		{"i16x8.add", ImmNone, v128v128, v128},
		{"i16x8.add_sat_s", ImmNone, v128v128, v128},
		{"i16x8.add_sat_u", ImmNone, v128v128, v128},
		{"i16x8.sub", ImmNone, v128v128, v128},
		{"i16x8.sub_sat_s", ImmNone, v128v128, v128},
		{"i16x8.sub_sat_u", ImmNone, v128v128, v128},
		{"f64x2.nearest", ImmNone, v128, v128},
		{"i16x8.mul", ImmNone, v128v128, v128},
		{"i16x8.min_s", ImmNone, v128v128, v128},
		{"i16x8.min_u", ImmNone, v128v128, v128},
		{"i16x8.max_s", ImmNone, v128v128, v128},
		{"i16x8.max_u", ImmNone, v128v128, v128},
		{},
		{"i16x8.avgr_u", ImmNone, v128v128, v128},
		{"i16x8.extmul_low_i8x16_s", ImmNone, v128v128, v128},
		{"i16x8.extmul_high_i8x16_s", ImmNone, v128v128, v128},
		{"i16x8.extmul_low_i8x16_u", ImmNone, v128v128, v128},
		{"i16x8.extmul_high_i8x16_u", ImmNone, v128v128, v128},
	}[i]
}

// vectorWords is the lines from fd 160 on: lanes of 32 bits.
func vectorWords(i int) line {
	return [192 - 160]line{
		{"i32x4.abs", ImmNone, v128, v128},
		{"i32x4.neg", ImmNone, v128, v128},
		{},
		{"i32x4.all_true", ImmNone, v128, i32},
		{"i32x4.bitmask", ImmNone, v128, i32},
		{},
		{},
		{"i32x4.extend_low_i16x8_s", ImmNone, v128, v128},
		{"i32x4.extend_high_i16x8_s", ImmNone, v128, v128},
		{"i32x4.extend_low_i16x8_u", ImmNone, v128, v128},
		{"i32x4.extend_high_i16x8_u", ImmNone, v128, v128},
		{"i32x4.shl", ImmNone, v128i32, v128},
		{"i32x4.shr_s", ImmNone, v128i32, v128},
		{"i32x4.shr_u", ImmNone, v128i32, v128},
		{"i32x4.add", ImmNone, v128v128, v128},
		{},
		{},
		{"i32x4.sub", ImmNone, v128v128, v128},
		{},
		{},
		{},
		{"i32x4.mul", ImmNone, v128v128, v128},
		{"i32x4.min_s", ImmNone, v128v128, v128},
		{"i32x4.min_u", ImmNone, v128v128, v128},
		{"i32x4.max_s", ImmNone, v128v128, v128},
		{"i32x4.max_u", ImmNone, v128v128, v128},
		{"i32x4.dot_i16x8_s", ImmNone, v128v128, v128},
		{},
		{"i32x4.extmul_low_i16x8_s", ImmNone, v128v128, v128},
		{"i32x4.extmul_high_i16x8_s", ImmNone, v128v128, v128},
		{"i32x4.extmul_low_i16x8_u", ImmNone, v128v128, v128},
		{"i32x4.extmul_high_i16x8_u", ImmNone, v128v128, v128},
	}[i]
}

// vectorLongs is the lines from fd 192 on: lanes of 64 bits.
func vectorLongs(i int) line {
	return [224 - 192]line{
		{"i64x2.abs", ImmNone, v128, v128},
		{"i64x2.neg", ImmNone, v128, v128},
		{},
		{"i64x2.all_true", ImmNone, v128, i32},
		{"i64x2.bitmask", ImmNone, v128, i32},
		{},
		{},
		{"i64x2.extend_low_i32x4_s", ImmNone, v128, v128},
		{"i64x2.extend_high_i32x4_s", ImmNone, v128, v128},
		{"i64x2.extend_low_i32x4_u", ImmNone, v128, v128},
		{"i64x2.extend_high_i32x4_u", ImmNone, v128, v128},
		{"i64x2.shl", ImmNone, v128i32, v128},
		{"i64x2.shr_s", ImmNone, v128i32, v128},
		{"i64x2.shr_u", ImmNone, v128i32, v128},
		{"i64x2.add", ImmNone, v128v128, v128},
		{},
		{},
		{"i64x2.sub", ImmNone, v128v128, v128},
		{},
		{},
		{},
		{"i64x2.mul", ImmNone, v128v128, v128},
		{"i64x2.eq", ImmNone, v128v128, v128},
		{"i64x2.ne", ImmNone, v128v128, v128},
		{"i64x2.lt_s", ImmNone, v128v128, v128},
		{"i64x2.gt_s", ImmNone, v128v128, v128},
		{"i64x2.le_s", ImmNone, v128v128, v128},
		{"i64x2.ge_s", ImmNone, v128v128, v128},
		{"i64x2.extmul_low_i32x4_s", ImmNone, v128v128, v128},
		{"i64x2.extmul_high_i32x4_s", ImmNone, v128v128, v128},
		{"i64x2.extmul_low_i32x4_u", ImmNone, v128v128, v128},
		{"i64x2.extmul_high_i32x4_u", ImmNone, v128v128, v128},
	}[i]
}

// vectorFloats is the lines from fd 224 on: lanes that are floats, and floats as integers and back.
func vectorFloats(i int) line {
	return [256 - 224]line{
		{"f32x4.abs", ImmNone, v128, v128},
		{"f32x4.neg", ImmNone, v128, v128},
		{},
		{"f32x4.sqrt", ImmNone, v128, v128},
		{"f32x4.add", ImmNone, v128v128, v128},
		{"f32x4.sub", ImmNone, v128v128, v128},
		{"f32x4.mul", ImmNone, v128v128, v128},
		{"f32x4.div", ImmNone, v128v128, v128},
		{"f32x4.min", ImmNone, v128v128, v128},
		{"f32x4.max", ImmNone, v128v128, v128},
		{"f32x4.pmin", ImmNone, v128v128, v128},
		{"f32x4.pmax", ImmNone, v128v128, v128},
		{"f64x2.abs", ImmNone, v128, v128},
		{"f64x2.neg", ImmNone, v128, v128},
		{},
		{"f64x2.sqrt", ImmNone, v128, v128},
		{"f64x2.add", ImmNone, v128v128, v128},
		{"f64x2.sub", ImmNone, v128v128, v128},
		{"f64x2.mul", ImmNone, v128v128, v128},
		{"f64x2.div", ImmNone, v128v128, v128},
		{"f64x2.min", ImmNone, v128v128, v128},
		{"f64x2.max", ImmNone, v128v128, v128},
		{"f64x2.pmin", ImmNone, v128v128, v128},
		{"f64x2.pmax", ImmNone, v128v128, v128},
		{"i32x4.trunc_sat_f32x4_s", ImmNone, v128, v128},
		{"i32x4.trunc_sat_f32x4_u", ImmNone, v128, v128},
		{"f32x4.convert_i32x4_s", ImmNone, v128, v128},
		{"f32x4.convert_i32x4_u", ImmNone, v128, v128},
		{"i32x4.trunc_sat_f64x2_s_zero", ImmNone, v128, v128},
		{"i32x4.trunc_sat_f64x2_u_zero", ImmNone, v128, v128},
		{"f64x2.convert_low_i32x4_s", ImmNone, v128, v128},
		{"f64x2.convert_low_i32x4_u", ImmNone, v128, v128},
	}[i]
}
