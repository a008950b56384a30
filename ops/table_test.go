package ops_test

// documented is the table of the document, line by line.
const documented = `
00: unreachable; None; ?
01: nop; None; - → -
02: block; Block; ?
03: loop; Block; ?
04: if; Block; ?
0c: br; Label; ?
0d: br_if; Label; ?
0e: br_table; Table; ?
0f: return; None; ?
10: call; Func; ?
11: call_indirect; Indirect; ?
1a: drop; None; ?
1b: select; None; ?
1c: select; Select; ?
20: local.get; Local; ?
21: local.set; Local; ?
22: local.tee; Local; ?
23: global.get; Global; ?
24: global.set; Global; ?
25: table.get; Tab; ?
26: table.set; Tab; ?
28: i32.load; Mem; i32 → i32
29: i64.load; Mem; i32 → i64
2a: f32.load; Mem; i32 → f32
2b: f64.load; Mem; i32 → f64
2c: i32.load8_s; Mem; i32 → i32
2d: i32.load8_u; Mem; i32 → i32
2e: i32.load16_s; Mem; i32 → i32
2f: i32.load16_u; Mem; i32 → i32
30: i64.load8_s; Mem; i32 → i64
31: i64.load8_u; Mem; i32 → i64
32: i64.load16_s; Mem; i32 → i64
33: i64.load16_u; Mem; i32 → i64
34: i64.load32_s; Mem; i32 → i64
35: i64.load32_u; Mem; i32 → i64
36: i32.store; Mem; i32 i32 → -
37: i64.store; Mem; i32 i64 → -
38: f32.store; Mem; i32 f32 → -
39: f64.store; Mem; i32 f64 → -
3a: i32.store8; Mem; i32 i32 → -
3b: i32.store16; Mem; i32 i32 → -
3c: i64.store8; Mem; i32 i64 → -
3d: i64.store16; Mem; i32 i64 → -
3e: i64.store32; Mem; i32 i64 → -
3f: memory.size; Zero; - → i32
40: memory.grow; Zero; i32 → i32
41: i32.const; I32; - → i32
42: i64.const; I64; - → i64
43: f32.const; F32; - → f32
44: f64.const; F64; - → f64
45: i32.eqz; None; i32 → i32
46: i32.eq; None; i32 i32 → i32
47: i32.ne; None; i32 i32 → i32
48: i32.lt_s; None; i32 i32 → i32
49: i32.lt_u; None; i32 i32 → i32
4a: i32.gt_s; None; i32 i32 → i32
4b: i32.gt_u; None; i32 i32 → i32
4c: i32.le_s; None; i32 i32 → i32
4d: i32.le_u; None; i32 i32 → i32
4e: i32.ge_s; None; i32 i32 → i32
4f: i32.ge_u; None; i32 i32 → i32
50: i64.eqz; None; i64 → i32
51: i64.eq; None; i64 i64 → i32
52: i64.ne; None; i64 i64 → i32
53: i64.lt_s; None; i64 i64 → i32
54: i64.lt_u; None; i64 i64 → i32
55: i64.gt_s; None; i64 i64 → i32
56: i64.gt_u; None; i64 i64 → i32
57: i64.le_s; None; i64 i64 → i32
58: i64.le_u; None; i64 i64 → i32
59: i64.ge_s; None; i64 i64 → i32
5a: i64.ge_u; None; i64 i64 → i32
5b: f32.eq; None; f32 f32 → i32
5c: f32.ne; None; f32 f32 → i32
5d: f32.lt; None; f32 f32 → i32
5e: f32.gt; None; f32 f32 → i32
5f: f32.le; None; f32 f32 → i32
60: f32.ge; None; f32 f32 → i32
61: f64.eq; None; f64 f64 → i32
62: f64.ne; None; f64 f64 → i32
63: f64.lt; None; f64 f64 → i32
64: f64.gt; None; f64 f64 → i32
65: f64.le; None; f64 f64 → i32
66: f64.ge; None; f64 f64 → i32
67: i32.clz; None; i32 → i32
68: i32.ctz; None; i32 → i32
69: i32.popcnt; None; i32 → i32
6a: i32.add; None; i32 i32 → i32
6b: i32.sub; None; i32 i32 → i32
6c: i32.mul; None; i32 i32 → i32
6d: i32.div_s; None; i32 i32 → i32
6e: i32.div_u; None; i32 i32 → i32
6f: i32.rem_s; None; i32 i32 → i32
70: i32.rem_u; None; i32 i32 → i32
71: i32.and; None; i32 i32 → i32
72: i32.or; None; i32 i32 → i32
73: i32.xor; None; i32 i32 → i32
74: i32.shl; None; i32 i32 → i32
75: i32.shr_s; None; i32 i32 → i32
76: i32.shr_u; None; i32 i32 → i32
77: i32.rotl; None; i32 i32 → i32
78: i32.rotr; None; i32 i32 → i32
79: i64.clz; None; i64 → i64
7a: i64.ctz; None; i64 → i64
7b: i64.popcnt; None; i64 → i64
7c: i64.add; None; i64 i64 → i64
7d: i64.sub; None; i64 i64 → i64
7e: i64.mul; None; i64 i64 → i64
7f: i64.div_s; None; i64 i64 → i64
80: i64.div_u; None; i64 i64 → i64
81: i64.rem_s; None; i64 i64 → i64
82: i64.rem_u; None; i64 i64 → i64
83: i64.and; None; i64 i64 → i64
84: i64.or; None; i64 i64 → i64
85: i64.xor; None; i64 i64 → i64
86: i64.shl; None; i64 i64 → i64
87: i64.shr_s; None; i64 i64 → i64
88: i64.shr_u; None; i64 i64 → i64
89: i64.rotl; None; i64 i64 → i64
8a: i64.rotr; None; i64 i64 → i64
8b: f32.abs; None; f32 → f32
8c: f32.neg; None; f32 → f32
8d: f32.ceil; None; f32 → f32
8e: f32.floor; None; f32 → f32
8f: f32.trunc; None; f32 → f32
90: f32.nearest; None; f32 → f32
91: f32.sqrt; None; f32 → f32
92: f32.add; None; f32 f32 → f32
93: f32.sub; None; f32 f32 → f32
94: f32.mul; None; f32 f32 → f32
95: f32.div; None; f32 f32 → f32
96: f32.min; None; f32 f32 → f32
97: f32.max; None; f32 f32 → f32
98: f32.copysign; None; f32 f32 → f32
99: f64.abs; None; f64 → f64
9a: f64.neg; None; f64 → f64
9b: f64.ceil; None; f64 → f64
9c: f64.floor; None; f64 → f64
9d: f64.trunc; None; f64 → f64
9e: f64.nearest; None; f64 → f64
9f: f64.sqrt; None; f64 → f64
a0: f64.add; None; f64 f64 → f64
a1: f64.sub; None; f64 f64 → f64
a2: f64.mul; None; f64 f64 → f64
a3: f64.div; None; f64 f64 → f64
a4: f64.min; None; f64 f64 → f64
a5: f64.max; None; f64 f64 → f64
a6: f64.copysign; None; f64 f64 → f64
a7: i32.wrap_i64; None; i64 → i32
a8: i32.trunc_f32_s; None; f32 → i32
a9: i32.trunc_f32_u; None; f32 → i32
aa: i32.trunc_f64_s; None; f64 → i32
ab: i32.trunc_f64_u; None; f64 → i32
ac: i64.extend_i32_s; None; i32 → i64
ad: i64.extend_i32_u; None; i32 → i64
ae: i64.trunc_f32_s; None; f32 → i64
af: i64.trunc_f32_u; None; f32 → i64
b0: i64.trunc_f64_s; None; f64 → i64
b1: i64.trunc_f64_u; None; f64 → i64
b2: f32.convert_i32_s; None; i32 → f32
b3: f32.convert_i32_u; None; i32 → f32
b4: f32.convert_i64_s; None; i64 → f32
b5: f32.convert_i64_u; None; i64 → f32
b6: f32.demote_f64; None; f64 → f32
b7: f64.convert_i32_s; None; i32 → f64
b8: f64.convert_i32_u; None; i32 → f64
b9: f64.convert_i64_s; None; i64 → f64
ba: f64.convert_i64_u; None; i64 → f64
bb: f64.promote_f32; None; f32 → f64
bc: i32.reinterpret_f32; None; f32 → i32
bd: i64.reinterpret_f64; None; f64 → i64
be: f32.reinterpret_i32; None; i32 → f32
bf: f64.reinterpret_i64; None; i64 → f64
c0: i32.extend8_s; None; i32 → i32
c1: i32.extend16_s; None; i32 → i32
c2: i64.extend8_s; None; i64 → i64
c3: i64.extend16_s; None; i64 → i64
c4: i64.extend32_s; None; i64 → i64
d0: ref.null; Ref; ?
d1: ref.is_null; None; ?
d2: ref.func; Func; - → funcref
fc 0: i32.trunc_sat_f32_s; None; f32 → i32
fc 1: i32.trunc_sat_f32_u; None; f32 → i32
fc 2: i32.trunc_sat_f64_s; None; f64 → i32
fc 3: i32.trunc_sat_f64_u; None; f64 → i32
fc 4: i64.trunc_sat_f32_s; None; f32 → i64
fc 5: i64.trunc_sat_f32_u; None; f32 → i64
fc 6: i64.trunc_sat_f64_s; None; f64 → i64
fc 7: i64.trunc_sat_f64_u; None; f64 → i64
fc 8: memory.init; DataMem; i32 i32 i32 → -
fc 9: data.drop; Data; - → -
fc 10: memory.copy; Zeros; i32 i32 i32 → -
fc 11: memory.fill; Zero; i32 i32 i32 → -
fc 12: table.init; ElemTab; i32 i32 i32 → -
fc 13: elem.drop; Elem; - → -
fc 14: table.copy; Tabs; i32 i32 i32 → -
fc 15: table.grow; Tab; ?
fc 16: table.size; Tab; - → i32
fc 17: table.fill; Tab; ?
fd 0: v128.load; Mem; i32 → v128
fd 1: v128.load8x8_s; Mem; i32 → v128
fd 2: v128.load8x8_u; Mem; i32 → v128
fd 3: v128.load16x4_s; Mem; i32 → v128
fd 4: v128.load16x4_u; Mem; i32 → v128
fd 5: v128.load32x2_s; Mem; i32 → v128
fd 6: v128.load32x2_u; Mem; i32 → v128
fd 7: v128.load8_splat; Mem; i32 → v128
fd 8: v128.load16_splat; Mem; i32 → v128
fd 9: v128.load32_splat; Mem; i32 → v128
fd 10: v128.load64_splat; Mem; i32 → v128
fd 11: v128.store; Mem; i32 v128 → -
fd 12: v128.const; V128; - → v128
fd 13: i8x16.shuffle; Shuffle; v128 v128 → v128
fd 14: i8x16.swizzle; None; v128 v128 → v128
fd 15: i8x16.splat; None; i32 → v128
fd 16: i16x8.splat; None; i32 → v128
fd 17: i32x4.splat; None; i32 → v128
fd 18: i64x2.splat; None; i64 → v128
fd 19: f32x4.splat; None; f32 → v128
fd 20: f64x2.splat; None; f64 → v128
fd 21: i8x16.extract_lane_s; Lane; v128 → i32
fd 22: i8x16.extract_lane_u; Lane; v128 → i32
fd 23: i8x16.replace_lane; Lane; v128 i32 → v128
fd 24: i16x8.extract_lane_s; Lane; v128 → i32
fd 25: i16x8.extract_lane_u; Lane; v128 → i32
fd 26: i16x8.replace_lane; Lane; v128 i32 → v128
fd 27: i32x4.extract_lane; Lane; v128 → i32
fd 28: i32x4.replace_lane; Lane; v128 i32 → v128
fd 29: i64x2.extract_lane; Lane; v128 → i64
fd 30: i64x2.replace_lane; Lane; v128 i64 → v128
fd 31: f32x4.extract_lane; Lane; v128 → f32
fd 32: f32x4.replace_lane; Lane; v128 f32 → v128
fd 33: f64x2.extract_lane; Lane; v128 → f64
fd 34: f64x2.replace_lane; Lane; v128 f64 → v128
fd 35: i8x16.eq; None; v128 v128 → v128
fd 36: i8x16.ne; None; v128 v128 → v128
fd 37: i8x16.lt_s; None; v128 v128 → v128
fd 38: i8x16.lt_u; None; v128 v128 → v128
fd 39: i8x16.gt_s; None; v128 v128 → v128
fd 40: i8x16.gt_u; None; v128 v128 → v128
fd 41: i8x16.le_s; None; v128 v128 → v128
fd 42: i8x16.le_u; None; v128 v128 → v128
fd 43: i8x16.ge_s; None; v128 v128 → v128
fd 44: i8x16.ge_u; None; v128 v128 → v128
fd 45: i16x8.eq; None; v128 v128 → v128
fd 46: i16x8.ne; None; v128 v128 → v128
fd 47: i16x8.lt_s; None; v128 v128 → v128
fd 48: i16x8.lt_u; None; v128 v128 → v128
fd 49: i16x8.gt_s; None; v128 v128 → v128
fd 50: i16x8.gt_u; None; v128 v128 → v128
fd 51: i16x8.le_s; None; v128 v128 → v128
fd 52: i16x8.le_u; None; v128 v128 → v128
fd 53: i16x8.ge_s; None; v128 v128 → v128
fd 54: i16x8.ge_u; None; v128 v128 → v128
fd 55: i32x4.eq; None; v128 v128 → v128
fd 56: i32x4.ne; None; v128 v128 → v128
fd 57: i32x4.lt_s; None; v128 v128 → v128
fd 58: i32x4.lt_u; None; v128 v128 → v128
fd 59: i32x4.gt_s; None; v128 v128 → v128
fd 60: i32x4.gt_u; None; v128 v128 → v128
fd 61: i32x4.le_s; None; v128 v128 → v128
fd 62: i32x4.le_u; None; v128 v128 → v128
fd 63: i32x4.ge_s; None; v128 v128 → v128
fd 64: i32x4.ge_u; None; v128 v128 → v128
fd 65: f32x4.eq; None; v128 v128 → v128
fd 66: f32x4.ne; None; v128 v128 → v128
fd 67: f32x4.lt; None; v128 v128 → v128
fd 68: f32x4.gt; None; v128 v128 → v128
fd 69: f32x4.le; None; v128 v128 → v128
fd 70: f32x4.ge; None; v128 v128 → v128
fd 71: f64x2.eq; None; v128 v128 → v128
fd 72: f64x2.ne; None; v128 v128 → v128
fd 73: f64x2.lt; None; v128 v128 → v128
fd 74: f64x2.gt; None; v128 v128 → v128
fd 75: f64x2.le; None; v128 v128 → v128
fd 76: f64x2.ge; None; v128 v128 → v128
fd 77: v128.not; None; v128 → v128
fd 78: v128.and; None; v128 v128 → v128
fd 79: v128.andnot; None; v128 v128 → v128
fd 80: v128.or; None; v128 v128 → v128
fd 81: v128.xor; None; v128 v128 → v128
fd 82: v128.bitselect; None; v128 v128 v128 → v128
fd 83: v128.any_true; None; v128 → i32
fd 84: v128.load8_lane; MemLane; i32 v128 → v128
fd 85: v128.load16_lane; MemLane; i32 v128 → v128
fd 86: v128.load32_lane; MemLane; i32 v128 → v128
fd 87: v128.load64_lane; MemLane; i32 v128 → v128
fd 88: v128.store8_lane; MemLane; i32 v128 → -
fd 89: v128.store16_lane; MemLane; i32 v128 → -
fd 90: v128.store32_lane; MemLane; i32 v128 → -
fd 91: v128.store64_lane; MemLane; i32 v128 → -
fd 92: v128.load32_zero; Mem; i32 → v128
fd 93: v128.load64_zero; Mem; i32 → v128
fd 94: f32x4.demote_f64x2_zero; None; v128 → v128
fd 95: f64x2.promote_low_f32x4; None; v128 → v128
fd 96: i8x16.abs; None; v128 → v128
fd 97: i8x16.neg; None; v128 → v128
fd 98: i8x16.popcnt; None; v128 → v128
fd 99: i8x16.all_true; None; v128 → i32
fd 100: i8x16.bitmask; None; v128 → i32
fd 101: i8x16.narrow_i16x8_s; None; v128 v128 → v128
fd 102: i8x16.narrow_i16x8_u; None; v128 v128 → v128
fd 103: f32x4.ceil; None; v128 → v128
fd 104: f32x4.floor; None; v128 → v128
fd 105: f32x4.trunc; None; v128 → v128
fd 106: f32x4.nearest; None; v128 → v128
fd 107: i8x16.shl; None; v128 i32 → v128
fd 108: i8x16.shr_s; None; v128 i32 → v128
fd 109: i8x16.shr_u; None; v128 i32 → v128
fd 110: i8x16.add; None; v128 v128 → v128
fd 111: i8x16.add_sat_s; None; v128 v128 → v128
fd 112: i8x16.add_sat_u; None; v128 v128 → v128
fd 113: i8x16.sub; None; v128 v128 → v128
fd 114: i8x16.sub_sat_s; None; v128 v128 → v128
fd 115: i8x16.sub_sat_u; None; v128 v128 → v128
fd 116: f64x2.ceil; None; v128 → v128
fd 117: f64x2.floor; None; v128 → v128
fd 118: i8x16.min_s; None; v128 v128 → v128
fd 119: i8x16.min_u; None; v128 v128 → v128
fd 120: i8x16.max_s; None; v128 v128 → v128
fd 121: i8x16.max_u; None; v128 v128 → v128
fd 122: f64x2.trunc; None; v128 → v128
fd 123: i8x16.avgr_u; None; v128 v128 → v128
fd 124: i16x8.extadd_pairwise_i8x16_s; None; v128 → v128
fd 125: i16x8.extadd_pairwise_i8x16_u; None; v128 → v128
fd 126: i32x4.extadd_pairwise_i16x8_s; None; v128 → v128
fd 127: i32x4.extadd_pairwise_i16x8_u; None; v128 → v128
fd 128: i16x8.abs; None; v128 → v128
fd 129: i16x8.neg; None; v128 → v128
fd 130: i16x8.q15mulr_sat_s; None; v128 v128 → v128
fd 131: i16x8.all_true; None; v128 → i32
fd 132: i16x8.bitmask; None; v128 → i32
fd 133: i16x8.narrow_i32x4_s; None; v128 v128 → v128
fd 134: i16x8.narrow_i32x4_u; None; v128 v128 → v128
fd 135: i16x8.extend_low_i8x16_s; None; v128 → v128
fd 136: i16x8.extend_high_i8x16_s; None; v128 → v128
fd 137: i16x8.extend_low_i8x16_u; None; v128 → v128
fd 138: i16x8.extend_high_i8x16_u; None; v128 → v128
fd 139: i16x8.shl; None; v128 i32 → v128
fd 140: i16x8.shr_s; None; v128 i32 → v128
fd 141: i16x8.shr_u; None; v128 i32 → v128
fd 142: i16x8.add; None; v128 v128 → v128
fd 143: i16x8.add_sat_s; None; v128 v128 → v128
fd 144: i16x8.add_sat_u; None; v128 v128 → v128
fd 145: i16x8.sub; None; v128 v128 → v128
fd 146: i16x8.sub_sat_s; None; v128 v128 → v128
fd 147: i16x8.sub_sat_u; None; v128 v128 → v128
fd 148: f64x2.nearest; None; v128 → v128
fd 149: i16x8.mul; None; v128 v128 → v128
fd 150: i16x8.min_s; None; v128 v128 → v128
fd 151: i16x8.min_u; None; v128 v128 → v128
fd 152: i16x8.max_s; None; v128 v128 → v128
fd 153: i16x8.max_u; None; v128 v128 → v128
fd 155: i16x8.avgr_u; None; v128 v128 → v128
fd 156: i16x8.extmul_low_i8x16_s; None; v128 v128 → v128
fd 157: i16x8.extmul_high_i8x16_s; None; v128 v128 → v128
fd 158: i16x8.extmul_low_i8x16_u; None; v128 v128 → v128
fd 159: i16x8.extmul_high_i8x16_u; None; v128 v128 → v128
fd 160: i32x4.abs; None; v128 → v128
fd 161: i32x4.neg; None; v128 → v128
fd 163: i32x4.all_true; None; v128 → i32
fd 164: i32x4.bitmask; None; v128 → i32
fd 167: i32x4.extend_low_i16x8_s; None; v128 → v128
fd 168: i32x4.extend_high_i16x8_s; None; v128 → v128
fd 169: i32x4.extend_low_i16x8_u; None; v128 → v128
fd 170: i32x4.extend_high_i16x8_u; None; v128 → v128
fd 171: i32x4.shl; None; v128 i32 → v128
fd 172: i32x4.shr_s; None; v128 i32 → v128
fd 173: i32x4.shr_u; None; v128 i32 → v128
fd 174: i32x4.add; None; v128 v128 → v128
fd 177: i32x4.sub; None; v128 v128 → v128
fd 181: i32x4.mul; None; v128 v128 → v128
fd 182: i32x4.min_s; None; v128 v128 → v128
fd 183: i32x4.min_u; None; v128 v128 → v128
fd 184: i32x4.max_s; None; v128 v128 → v128
fd 185: i32x4.max_u; None; v128 v128 → v128
fd 186: i32x4.dot_i16x8_s; None; v128 v128 → v128
fd 188: i32x4.extmul_low_i16x8_s; None; v128 v128 → v128
fd 189: i32x4.extmul_high_i16x8_s; None; v128 v128 → v128
fd 190: i32x4.extmul_low_i16x8_u; None; v128 v128 → v128
fd 191: i32x4.extmul_high_i16x8_u; None; v128 v128 → v128
fd 192: i64x2.abs; None; v128 → v128
fd 193: i64x2.neg; None; v128 → v128
fd 195: i64x2.all_true; None; v128 → i32
fd 196: i64x2.bitmask; None; v128 → i32
fd 199: i64x2.extend_low_i32x4_s; None; v128 → v128
fd 200: i64x2.extend_high_i32x4_s; None; v128 → v128
fd 201: i64x2.extend_low_i32x4_u; None; v128 → v128
fd 202: i64x2.extend_high_i32x4_u; None; v128 → v128
fd 203: i64x2.shl; None; v128 i32 → v128
fd 204: i64x2.shr_s; None; v128 i32 → v128
fd 205: i64x2.shr_u; None; v128 i32 → v128
fd 206: i64x2.add; None; v128 v128 → v128
fd 209: i64x2.sub; None; v128 v128 → v128
fd 213: i64x2.mul; None; v128 v128 → v128
fd 214: i64x2.eq; None; v128 v128 → v128
fd 215: i64x2.ne; None; v128 v128 → v128
fd 216: i64x2.lt_s; None; v128 v128 → v128
fd 217: i64x2.gt_s; None; v128 v128 → v128
fd 218: i64x2.le_s; None; v128 v128 → v128
fd 219: i64x2.ge_s; None; v128 v128 → v128
fd 220: i64x2.extmul_low_i32x4_s; None; v128 v128 → v128
fd 221: i64x2.extmul_high_i32x4_s; None; v128 v128 → v128
fd 222: i64x2.extmul_low_i32x4_u; None; v128 v128 → v128
fd 223: i64x2.extmul_high_i32x4_u; None; v128 v128 → v128
fd 224: f32x4.abs; None; v128 → v128
fd 225: f32x4.neg; None; v128 → v128
fd 227: f32x4.sqrt; None; v128 → v128
fd 228: f32x4.add; None; v128 v128 → v128
fd 229: f32x4.sub; None; v128 v128 → v128
fd 230: f32x4.mul; None; v128 v128 → v128
fd 231: f32x4.div; None; v128 v128 → v128
fd 232: f32x4.min; None; v128 v128 → v128
fd 233: f32x4.max; None; v128 v128 → v128
fd 234: f32x4.pmin; None; v128 v128 → v128
fd 235: f32x4.pmax; None; v128 v128 → v128
fd 236: f64x2.abs; None; v128 → v128
fd 237: f64x2.neg; None; v128 → v128
fd 239: f64x2.sqrt; None; v128 → v128
fd 240: f64x2.add; None; v128 v128 → v128
fd 241: f64x2.sub; None; v128 v128 → v128
fd 242: f64x2.mul; None; v128 v128 → v128
fd 243: f64x2.div; None; v128 v128 → v128
fd 244: f64x2.min; None; v128 v128 → v128
fd 245: f64x2.max; None; v128 v128 → v128
fd 246: f64x2.pmin; None; v128 v128 → v128
fd 247: f64x2.pmax; None; v128 v128 → v128
fd 248: i32x4.trunc_sat_f32x4_s; None; v128 → v128
fd 249: i32x4.trunc_sat_f32x4_u; None; v128 → v128
fd 250: f32x4.convert_i32x4_s; None; v128 → v128
fd 251: f32x4.convert_i32x4_u; None; v128 → v128
fd 252: i32x4.trunc_sat_f64x2_s_zero; None; v128 → v128
fd 253: i32x4.trunc_sat_f64x2_u_zero; None; v128 → v128
fd 254: f64x2.convert_low_i32x4_s; None; v128 → v128
fd 255: f64x2.convert_low_i32x4_u; None; v128 → v128
`
