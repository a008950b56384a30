package lanes_test

import (
	"math"
	"slices"

	"bodkin/api"
)

// bytes, shorts, words and longs are vectors of lanes that are written out; where there are fewer, the last one stands in all that follow.

func bytes(l ...int64) api.Value  { return written(8, l) }
func shorts(l ...int64) api.Value { return written(16, l) }
func words(l ...int64) api.Value  { return written(32, l) }
func longs(l ...int64) api.Value  { return written(64, l) }

func written(width int, l []int64) api.Value {
	var all []uint64
	for i := range 128 / width {
		all = append(all, uint64(l[min(i, len(l)-1)]))
	}
	return vectorOf(width, all)
}

// singles and doubles are vectors of floats.

func singles(l ...float32) api.Value {
	var all []int64
	for _, x := range l {
		all = append(all, int64(math.Float32bits(x)))
	}
	return words(all...)
}

func doubles(l ...float64) api.Value {
	var all []int64
	for _, x := range l {
		all = append(all, int64(math.Float64bits(x)))
	}
	return longs(all...)
}

func i32(n int64) api.Value { return api.Value{Type: api.I32, Lo: uint64(uint32(n))} }

// call is a call and its result.
type call struct {
	name   string
	imm    []int
	args   []api.Value
	lo, hi uint64
}

// vector is a call that leaves a vector.
func vector(name string, want api.Value, args ...api.Value) call {
	return call{name, nil, args, want.Lo, want.Hi}
}

// number is a call that leaves an I32.
func number(name string, want uint32, args ...api.Value) call {
	return call{name, nil, args, uint64(want), 0}
}

// at is a call with numbers behind the instruction.
func (c call) at(imm ...int) call {
	c.imm = imm
	return c
}

// nan is the canonical one.
var nan, inf = math.Float64frombits(0x7ff8000000000000), math.Inf(1)

var byHand = slices.Concat(placesByHand, bitsByHand, integersByHand, floatsByHand, widthsByHand, conversionsByHand)

var placesByHand = []call{
	vector("i8x16.splat", bytes(0x34), i32(0x1234)),
	vector("i16x8.splat", shorts(-1), i32(-1)),
	vector("f64x2.splat", doubles(1.5), api.Value{Type: api.F64, Lo: 0x3ff8000000000000}),
	number("i8x16.extract_lane_s", 0xffffff80, bytes(1, 0x80, 3)).at(1),
	number("i8x16.extract_lane_u", 0x80, bytes(1, 0x80, 3)).at(1),
	number("i16x8.extract_lane_s", 0xffff8001, shorts(1, 2, 3, 4, 5, 6, 7, 0x8001)).at(7),
	number("i16x8.extract_lane_u", 0x8001, shorts(1, 2, 3, 4, 5, 6, 7, 0x8001)).at(7),
	number("i32x4.extract_lane", 0xfffffffe, words(1, -2, 3)).at(1),
	vector("i8x16.replace_lane", bytes(1, 2, 0x99, 4), bytes(1, 2, 3, 4), i32(0x799)).at(2),
	vector("i64x2.replace_lane", longs(5, -7), longs(5, 6), api.Value{Type: api.I64, Lo: 1<<64 - 7}).at(1),
	vector("i8x16.shuffle", bytes(31, 16, 15, 0, 1, 2, 17, 18, 3), bytes(0, 1, 2, 3, 4, 5, 6, 7, 8, 9, 10, 11, 12, 13, 14, 15),
		bytes(16, 17, 18, 19, 20, 21, 22, 23, 24, 25, 26, 27, 28, 29, 30, 31)).at(31, 16, 15, 0, 1, 2, 17, 18, 3, 3, 3, 3, 3, 3, 3, 3),
	vector("i8x16.swizzle", bytes(85, 70, 0, 0, 0, 0, 72), bytes(70, 71, 72, 73, 74, 75, 76, 77, 78, 79, 80, 81, 82, 83, 84, 85), bytes(15, 0, 16, 17, 128, 255, 2)),
}

var bitsByHand = []call{
	vector("v128.not", longs(-1, 0), longs(0, -1)),
	vector("v128.and", longs(8, 0), longs(12, -1), longs(10, 0)),
	vector("v128.andnot", longs(4, -1), longs(12, -1), longs(10, 0)),
	vector("v128.or", longs(14, -1), longs(12, -1), longs(10, 0)),
	vector("v128.xor", longs(6, -1), longs(12, -1), longs(10, 0)),
	vector("v128.bitselect", bytes(0xa5), bytes(0xaa), bytes(0x55), bytes(0xf0)),
	number("v128.any_true", 1, longs(0, 1<<63-1)),
	number("v128.any_true", 0, longs(0)),
	number("i8x16.all_true", 0, bytes(1, 2, 0, 1)),
	number("i8x16.all_true", 1, bytes(1, 2, 0x80, 1)),
	number("i16x8.all_true", 1, shorts(0x100, 1)),
	number("i64x2.all_true", 0, longs(1, 0)),
	number("i8x16.bitmask", 0xfff6, bytes(1, 0x80, 0xff, 0x7f, 0x80)),
	number("i64x2.bitmask", 2, longs(1, -1)),
}

var integersByHand = []call{
	vector("i8x16.add", bytes(44), bytes(200), bytes(100)),
	vector("i8x16.add_sat_s", bytes(127, -128), bytes(127, -128), bytes(1, -1)),
	vector("i8x16.add_sat_u", bytes(255), bytes(200), bytes(100)),
	vector("i8x16.sub_sat_u", bytes(0), bytes(100), bytes(200)),
	vector("i16x8.sub_sat_s", shorts(-32768), shorts(-32768), shorts(1)),
	vector("i64x2.mul", longs(1, -6), longs(-1, 3), longs(-1, -2)),
	vector("i8x16.min_s", bytes(0x80), bytes(0x80), bytes(0x7f)),
	vector("i8x16.min_u", bytes(0x7f), bytes(0x80), bytes(0x7f)),
	vector("i32x4.max_s", words(1), words(-1), words(1)),
	vector("i32x4.max_u", words(-1), words(-1), words(1)),
	vector("i8x16.avgr_u", bytes(255, 2), bytes(255, 1), bytes(254, 2)),
	vector("i16x8.q15mulr_sat_s", shorts(32767, 8192), shorts(-32768, 16384), shorts(-32768, 16384)),
	vector("i8x16.abs", bytes(0x80, 1), bytes(0x80, -1)),
	vector("i64x2.neg", longs(1, 0), longs(-1, 0)),
	vector("i8x16.popcnt", bytes(8, 0, 3), bytes(255, 0, 7)),
	vector("i8x16.shl", bytes(2), bytes(0x81), i32(9)),
	vector("i8x16.shr_s", bytes(0xc0), bytes(0x81), i32(-7)),
	vector("i32x4.shr_u", words(0x7fffffff), words(-1), i32(33)),
	vector("i64x2.shl", longs(2, 4), longs(1, 2), i32(65)),
	vector("i16x8.eq", shorts(-1, 0), shorts(5), shorts(5, 6)),
	vector("i16x8.ne", shorts(0, -1), shorts(5), shorts(5, 6)),
	vector("i16x8.lt_s", shorts(-1, 0), shorts(-1, 1), shorts(1)),
	vector("i16x8.lt_u", shorts(0), shorts(-1, 1), shorts(1)),
	vector("i16x8.gt_u", shorts(-1, 0), shorts(-1, 1), shorts(1)),
	vector("i64x2.ge_s", longs(0, -1), longs(-1, 1), longs(1)),
	vector("i64x2.le_s", longs(-1), longs(-1, 1), longs(1)),
}

var floatsByHand = []call{
	vector("f32x4.add", singles(3, 0), singles(1, 2), singles(2, -2)),
	vector("f32x4.div", words(0x7fc00000, 0x7f800000, 0x3f000000), singles(0, 1), singles(0, 0, 2)),
	vector("f64x2.min", doubles(nan, -3), doubles(1, -3), doubles(nan, 2)),
	vector("f32x4.min", words(0x7fc00000), words(0x7f800001), singles(1)),
	vector("f32x4.pmin", words(0x7f800001), words(0x7f800001), singles(1)),
	vector("f32x4.pmax", words(-1, 0x40000000), words(-1, 0x3f800000), singles(2)),
	vector("f64x2.abs", longs(0x7ff0000000000001), longs(-0xfffffffffffff)),
	vector("f32x4.neg", words(-1, 0), words(0x7fffffff, math.MinInt32)),
	vector("f64x2.sqrt", doubles(3, nan), doubles(9, -1)),
	vector("f32x4.nearest", singles(2, 4, -2), singles(2.5, 3.5, -1.5)),
	vector("f64x2.ceil", doubles(2, -1), doubles(1.5, -1.5)),
	vector("f64x2.floor", doubles(1, -2), doubles(1.5, -1.5)),
	vector("f32x4.trunc", singles(1, -1), singles(1.5, -1.5)),
	vector("f64x2.eq", longs(-1, 0), doubles(1, nan), doubles(1, nan)),
	vector("f64x2.ne", longs(0, -1), doubles(1, nan), doubles(1, nan)),
	vector("f32x4.lt", words(-1, 0), singles(1, 2), singles(2)),
	vector("f32x4.ge", words(0, -1), singles(1, 2), singles(2)),
}

var widthsByHand = []call{
	vector("i16x8.narrow_i32x4_u", shorts(0, -1, 7, 0, 0, 65535, 65535, 65534), words(-1, 70000, 7, 0), words(0, 65535, 65536, 65534)),
	vector("i16x8.narrow_i32x4_s", shorts(-1, 32767, 7, -32768, 0, 1), words(-1, 70000, 7, -70000), words(0, 1)),
	vector("i8x16.narrow_i16x8_s", bytes(127, -128, -128, 127, 0, 0, 0, 0, 5), shorts(128, -129, -128, 127, 0), shorts(5)),
	vector("i8x16.narrow_i16x8_u", bytes(128, 0, 255, 255, 0, 0, 0, 0, 5), shorts(128, -1, 256, 255, 0), shorts(5)),
	vector("i16x8.extend_low_i8x16_s", shorts(-1, 1), bytes(-1, 1, 1, 1, 1, 1, 1, 1, 0x80)),
	vector("i16x8.extend_low_i8x16_u", shorts(255, 1), bytes(-1, 1, 1, 1, 1, 1, 1, 1, 0x80)),
	vector("i16x8.extend_high_i8x16_s", shorts(-128), bytes(-1, 1, 1, 1, 1, 1, 1, 1, 0x80)),
	vector("i64x2.extend_high_i32x4_u", longs(3, 1<<32-4), words(1, 2, 3, -4)),
	vector("i64x2.extmul_low_i32x4_s", longs(1<<62, -6), words(math.MinInt32, -2, 0), words(math.MinInt32, 3, 0)),
	vector("i64x2.extmul_high_i32x4_u", longs(1-1<<33, 6), words(7, 7, -1, 2), words(7, 7, -1, 3)),
	vector("i16x8.extmul_low_i8x16_u", shorts(255*255), bytes(-1), bytes(-1)),
	vector("i16x8.extadd_pairwise_i8x16_s", shorts(-256, 3), bytes(-128, -128, 1, 2, 1, 2, 1, 2, 1, 2, 1, 2, 1, 2, 1, 2)),
	vector("i32x4.extadd_pairwise_i16x8_u", words(131070), shorts(-1)),
	vector("i32x4.dot_i16x8_s", words(math.MinInt32), shorts(-32768), shorts(-32768)),
	vector("i32x4.dot_i16x8_s", words(1*5+2*6, -3*7+4*8, 0), shorts(1, 2, -3, 4, 0), shorts(5, 6, 7, 8, 9)),
}

var conversionsByHand = []call{
	vector("i32x4.trunc_sat_f32x4_s", words(-1, math.MaxInt32, math.MinInt32, 0), singles(-1.9, 3e9, -3e9, float32(nan))),
	vector("i32x4.trunc_sat_f32x4_u", words(0, -1294967296, -1, 1), singles(-1.9, 3e9, 5e9, 1.9)),
	vector("i32x4.trunc_sat_f64x2_s_zero", words(-1, math.MaxInt32, 0, 0), doubles(-1.9, inf)),
	vector("i32x4.trunc_sat_f64x2_u_zero", words(0, -1, 0, 0), doubles(-inf, math.MaxUint32)),
	vector("f32x4.convert_i32x4_s", singles(-1, 16777216, 0, 5), words(-1, 16777217, 0, 5)),
	vector("f32x4.convert_i32x4_u", singles(4294967296, 16777216, 0, 5), words(-1, 16777217, 0, 5)),
	vector("f64x2.convert_low_i32x4_s", doubles(-1, 16777217), words(-1, 16777217, 3, 4)),
	vector("f64x2.convert_low_i32x4_u", doubles(4294967295, 16777217), words(-1, 16777217, 3, 4)),
	vector("f32x4.demote_f64x2_zero", singles(1.5, float32(inf), 0, 0), doubles(1.5, 1e300)),
	vector("f64x2.promote_low_f32x4", doubles(1.5, -0.1000000014901161193847656), singles(1.5, -0.1, 3, 4)),
}
