package scalar_test

import "bodkin/api"

// call is a call and its result, written out; the instruction by its number and its name.
type call struct {
	op   int
	name string
	args []uint64
	want uint64
	err  api.Errno
}

func gives(op int, name string, want uint64, args ...uint64) call {
	return call{op, name, args, want, api.OK}
}

func traps(op int, name string, err api.Errno, args ...uint64) call {
	return call{op, name, args, 0, err}
}

const (
	minus1w  = 0xffffffff
	minus1   = 0xffffffffffffffff
	leastw   = 0x80000000
	least    = 0x8000000000000000
	nan32    = 0x7fc00000
	nan64    = 0x7ff8000000000000
	inf32    = 0x7f800000
	inf64    = 0x7ff0000000000000
	one32    = 0x3f800000
	two32    = 0x40000000
	one64    = 0x3ff0000000000000
	two64    = 0x4000000000000000
	three32  = 0x40400000
	three64  = 0x4008000000000000
	negative = 0x80000000 // -0 of 32 bits
	big32    = 0x4f800000 // 2^32
	big64    = 0x41f0000000000000
)

var comparisonsByHand = []call{
	gives(0x45, "i32.eqz", 1, 0), gives(0x45, "i32.eqz", 0, leastw),
	gives(0x46, "i32.eq", 1, 5, 5), gives(0x47, "i32.ne", 0, 5, 5),
	gives(0x48, "i32.lt_s", 1, minus1w, 1), gives(0x49, "i32.lt_u", 0, minus1w, 1),
	gives(0x4a, "i32.gt_s", 0, minus1w, 1), gives(0x4b, "i32.gt_u", 1, minus1w, 1),
	gives(0x4c, "i32.le_s", 1, minus1w, 1), gives(0x4d, "i32.le_u", 0, minus1w, 1),
	gives(0x4e, "i32.ge_s", 0, minus1w, 1), gives(0x4f, "i32.ge_u", 1, minus1w, 1),
	gives(0x50, "i64.eqz", 1, 0), gives(0x50, "i64.eqz", 0, 1<<32),
	gives(0x51, "i64.eq", 0, 5, 5+1<<32), gives(0x52, "i64.ne", 1, 5, 5+1<<32),
	gives(0x53, "i64.lt_s", 1, minus1, 1), gives(0x54, "i64.lt_u", 0, minus1, 1),
	gives(0x55, "i64.gt_s", 0, minus1, 1), gives(0x56, "i64.gt_u", 1, minus1, 1),
	gives(0x57, "i64.le_s", 1, 1, 1), gives(0x58, "i64.le_u", 0, minus1, 1),
	gives(0x59, "i64.ge_s", 0, minus1, 1), gives(0x5a, "i64.ge_u", 1, minus1, 1),
	gives(0x5b, "f32.eq", 1, 0, negative), gives(0x5c, "f32.ne", 1, nan32, nan32),
	gives(0x5d, "f32.lt", 1, one32, two32), gives(0x5e, "f32.gt", 0, one32, two32),
	gives(0x5f, "f32.le", 1, one32, one32), gives(0x60, "f32.ge", 0, one32, nan32),
	gives(0x61, "f64.eq", 0, nan64, nan64), gives(0x62, "f64.ne", 0, one64, one64),
	gives(0x63, "f64.lt", 0, two64, one64), gives(0x64, "f64.gt", 1, two64, one64),
	gives(0x65, "f64.le", 0, two64, one64), gives(0x66, "f64.ge", 1, two64, two64),
}

var integersByHand = []call{
	gives(0x67, "i32.clz", 31, 1), gives(0x67, "i32.clz", 32, 0),
	gives(0x68, "i32.ctz", 3, 8), gives(0x68, "i32.ctz", 32, 0), gives(0x69, "i32.popcnt", 32, minus1w),
	gives(0x6a, "i32.add", 0, minus1w, 1), gives(0x6b, "i32.sub", minus1w, 1, 2), gives(0x6c, "i32.mul", 1, minus1w, minus1w),
	traps(0x6d, "i32.div_s", api.TrapDiv, 7, 0), traps(0x6d, "i32.div_s", api.TrapOverflow, leastw, minus1w),
	gives(0x6d, "i32.div_s", 0xfffffffd, 0xfffffff9, 2),
	traps(0x6e, "i32.div_u", api.TrapDiv, 7, 0), gives(0x6e, "i32.div_u", 0, leastw, minus1w),
	traps(0x6f, "i32.rem_s", api.TrapDiv, 7, 0), gives(0x6f, "i32.rem_s", 0, leastw, minus1w), gives(0x6f, "i32.rem_s", minus1w, 0xfffffff9, 2),
	traps(0x70, "i32.rem_u", api.TrapDiv, 7, 0), gives(0x70, "i32.rem_u", 1, 7, 2),
	gives(0x71, "i32.and", 8, 12, 10), gives(0x72, "i32.or", 14, 12, 10), gives(0x73, "i32.xor", 6, 12, 10),
	gives(0x74, "i32.shl", 2, 1, 33), gives(0x75, "i32.shr_s", 0xc0000000, leastw, 33), gives(0x76, "i32.shr_u", 0x40000000, leastw, 33),
	gives(0x77, "i32.rotl", 3, 0x80000001, 1), gives(0x78, "i32.rotr", 0xc0000000, 0x80000001, 1),
	gives(0x79, "i64.clz", 63, 1), gives(0x7a, "i64.ctz", 64, 0), gives(0x7b, "i64.popcnt", 64, minus1),
	gives(0x7c, "i64.add", 1<<32, minus1w, 1), gives(0x7d, "i64.sub", minus1, 1, 2), gives(0x7e, "i64.mul", 1, minus1, minus1),
	traps(0x7f, "i64.div_s", api.TrapOverflow, least, minus1), traps(0x7f, "i64.div_s", api.TrapDiv, least, 0),
	gives(0x7f, "i64.div_s", 0xffffffff80000000, leastw, minus1),
	traps(0x80, "i64.div_u", api.TrapDiv, 1, 0), traps(0x81, "i64.rem_s", api.TrapDiv, 1, 0), traps(0x82, "i64.rem_u", api.TrapDiv, 1, 0),
	gives(0x80, "i64.div_u", 0, least, minus1), gives(0x81, "i64.rem_s", 0, least, minus1), gives(0x82, "i64.rem_u", least, least, minus1),
	gives(0x83, "i64.and", 8, 12, 10), gives(0x84, "i64.or", 14, 12, 10), gives(0x85, "i64.xor", 6, 12, 10),
	gives(0x86, "i64.shl", 1<<33, 1, 33), gives(0x87, "i64.shr_s", 0xc000000000000000, least, 65), gives(0x88, "i64.shr_u", 1<<62, least, 65),
	gives(0x89, "i64.rotl", 3, least+1, 1), gives(0x8a, "i64.rotr", 0xc000000000000000, least+1, 1),
	gives(0xc0, "i32.extend8_s", 0xffffff80, 0x180), gives(0xc1, "i32.extend16_s", 0xffff8000, 0x18000),
	gives(0xc2, "i64.extend8_s", 0xffffffffffffff80, 0x180), gives(0xc3, "i64.extend16_s", 0x7fff, 0x17fff),
	gives(0xc4, "i64.extend32_s", 0xffffffff80000000, 0x180000000),
}

var floatsByHand = []call{
	gives(0x8b, "f32.abs", 0x7f800001, 0xff800001), gives(0x8c, "f32.neg", 0xff800001, 0x7f800001),
	gives(0x8d, "f32.ceil", two32, 0x3fc00000), gives(0x8e, "f32.floor", one32, 0x3fc00000),
	gives(0x8f, "f32.trunc", 0xbf800000, 0xbff33333), gives(0x90, "f32.nearest", two32, 0x40200000),
	gives(0x91, "f32.sqrt", three32, 0x41100000), gives(0x91, "f32.sqrt", nan32, 0xbf800000),
	gives(0x92, "f32.add", three32, one32, two32), gives(0x93, "f32.sub", one32, three32, two32),
	gives(0x94, "f32.mul", 0x40c00000, three32, two32), gives(0x95, "f32.div", nan32, 0, 0), gives(0x95, "f32.div", inf32, one32, 0),
	gives(0x96, "f32.min", negative, 0, negative), gives(0x97, "f32.max", 0, 0, negative), gives(0x97, "f32.max", nan32, 0xffc00001, one32),
	gives(0x98, "f32.copysign", 0xbf800000, one32, 0xffc00001),
	gives(0x99, "f64.abs", inf64+1, least+inf64+1), gives(0x9a, "f64.neg", least+inf64+1, inf64+1),
	gives(0x9b, "f64.ceil", two64, 0x3ff8000000000000), gives(0x9c, "f64.floor", one64, 0x3ff8000000000000),
	gives(0x9d, "f64.trunc", one64, 0x3ff8000000000000), gives(0x9e, "f64.nearest", two64, 0x4004000000000000),
	gives(0x9f, "f64.sqrt", three64, 0x4022000000000000), gives(0x9f, "f64.sqrt", least, least),
	gives(0xa0, "f64.add", three64, one64, two64), gives(0xa1, "f64.sub", one64, three64, two64),
	gives(0xa2, "f64.mul", 0x4018000000000000, three64, two64), gives(0xa3, "f64.div", 4599676419421066581, one64, three64),
	gives(0xa4, "f64.min", one64, one64, two64), gives(0xa5, "f64.max", two64, one64, two64),
	gives(0xa6, "f64.copysign", least+one64, one64, least),
}

var conversionsByHand = []call{
	gives(0xa7, "i32.wrap_i64", 5, 1<<32+5),
	gives(0xa8, "i32.trunc_f32_s", minus1w, 0xbff33333), traps(0xa8, "i32.trunc_f32_s", api.TrapConvert, nan32), traps(0xa8, "i32.trunc_f32_s", api.TrapOverflow, 0x4f000000),
	traps(0xa9, "i32.trunc_f32_u", api.TrapOverflow, 0xbff33333), gives(0xa9, "i32.trunc_f32_u", leastw, 0x4f000000), traps(0xa9, "i32.trunc_f32_u", api.TrapOverflow, big32),
	gives(0xaa, "i32.trunc_f64_s", leastw, 0xc1e0000000000000), traps(0xab, "i32.trunc_f64_u", api.TrapOverflow, big64), traps(0xab, "i32.trunc_f64_u", api.TrapConvert, nan64),
	gives(0xac, "i64.extend_i32_s", minus1, minus1w), gives(0xad, "i64.extend_i32_u", minus1w, minus1w),
	gives(0xae, "i64.trunc_f32_s", 1<<32, big32), traps(0xaf, "i64.trunc_f32_u", api.TrapOverflow, 0xbf800000),
	gives(0xb0, "i64.trunc_f64_s", minus1, 0xbff8000000000000), traps(0xb1, "i64.trunc_f64_u", api.TrapOverflow, inf64),
	gives(0xb2, "f32.convert_i32_s", 0xbf800000, minus1w), gives(0xb3, "f32.convert_i32_u", big32, minus1w),
	gives(0xb4, "f32.convert_i64_s", 1266679808, 16777217), gives(0xb5, "f32.convert_i64_u", 0x5f800000, minus1),
	gives(0xb6, "f32.demote_f64", one32, one64), gives(0xb6, "f32.demote_f64", nan32, least+inf64+1),
	gives(0xb7, "f64.convert_i32_s", least+one64, minus1w), gives(0xb8, "f64.convert_i32_u", 0x41efffffffe00000, minus1w),
	gives(0xb9, "f64.convert_i64_s", least+one64, minus1), gives(0xba, "f64.convert_i64_u", 0x43f0000000000000, minus1),
	gives(0xbb, "f64.promote_f32", one64, one32), gives(0xbb, "f64.promote_f32", nan64, 0xff800001),
	gives(0xbc, "i32.reinterpret_f32", 0xff800001, 0xff800001), gives(0xbd, "i64.reinterpret_f64", inf64+1, inf64+1),
	gives(0xbe, "f32.reinterpret_i32", 0x7f800001, 0x7f800001), gives(0xbf, "f64.reinterpret_i64", minus1, minus1),
	gives(0xfc00, "i32.trunc_sat_f32_s", 0x7fffffff, big32), gives(0xfc00, "i32.trunc_sat_f32_s", 0, nan32),
	gives(0xfc01, "i32.trunc_sat_f32_u", 0, 0xbf800000), gives(0xfc02, "i32.trunc_sat_f64_s", leastw, least+inf64),
	gives(0xfc03, "i32.trunc_sat_f64_u", minus1w, big64), gives(0xfc04, "i64.trunc_sat_f32_s", 1<<63-1, inf32),
	gives(0xfc05, "i64.trunc_sat_f32_u", 1<<32, big32), gives(0xfc06, "i64.trunc_sat_f64_s", least, least+inf64),
	gives(0xfc07, "i64.trunc_sat_f64_u", minus1, inf64), gives(0xfc07, "i64.trunc_sat_f64_u", 0, nan64),
}
