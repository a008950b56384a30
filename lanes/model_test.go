package lanes_test

import (
	"encoding/binary"
	"math"
	"math/bits"
	"slices"
	"strconv"

	"bodkin/api"
)

// The rules of the document, worked out from a vector's bytes, with the machine's integers and floats.

// model is what an instruction has to answer.
type model func(imm []int, args []api.Value) api.Value

// bytesOf are a vector's bytes, the lowest one first.
func bytesOf(v api.Value) []byte {
	return binary.LittleEndian.AppendUint64(binary.LittleEndian.AppendUint64(nil, v.Lo), v.Hi)
}

// lanesOf are a vector's lanes.
func lanesOf(width int, v api.Value) []uint64 {
	var out []uint64
	for l := range slices.Chunk(bytesOf(v), width/8) {
		n := uint64(0)
		for i, b := range l {
			n |= uint64(b) << (8 * i)
		}
		out = append(out, n)
	}
	return out
}

// vectorOf is the vector of lanes, of whose bits the lowest count.
func vectorOf(width int, l []uint64) api.Value {
	var all []byte
	for _, n := range l {
		for i := range width / 8 {
			all = append(all, byte(n>>(8*i)))
		}
	}
	return api.Value{Type: api.V128, Lo: binary.LittleEndian.Uint64(all[:8]), Hi: binary.LittleEndian.Uint64(all[8:16])}
}

// signed is the signed value of a lane.
func signed(width int, n uint64) int64 {
	if n >= 1<<(width-1) {
		return int64(n - 1<<width)
	}
	return int64(n)
}

// within is the number of a range that is nearest to n.
func within(n, least, greatest int64) uint64 { return uint64(max(least, min(greatest, n))) }

func signedRange(width int, n int64) uint64 {
	return within(n, -1<<(width-1), 1<<(width-1)-1)
}

func unsignedRange(width int, n int64) uint64 { return within(n, 0, 1<<width-1) }

func ones(is bool) uint64 {
	if is {
		return math.MaxUint64
	}
	return 0
}

func one(is bool) api.Value {
	if is {
		return api.Value{Type: api.I32, Lo: 1}
	}
	return api.Value{Type: api.I32}
}

// value is a float as one of the machine's; a float of 32 bits has the same value there.
func value(width int, n uint64) float64 {
	if width == 32 {
		return float64(math.Float32frombits(uint32(n)))
	}
	return math.Float64frombits(n)
}

// bitsOf is a machine's float, rounded to so many bits.
func bitsOf(width int, x float64) uint64 {
	switch {
	case math.IsNaN(x) && width == 32:
		return 0x7fc00000
	case math.IsNaN(x):
		return 0x7ff8000000000000
	case width == 32:
		return uint64(math.Float32bits(float32(x)))
	}
	return math.Float64bits(x)
}

// unary, binaries and relations are what is done with a lane of each vector.
type (
	unaryOf    func(width int, a uint64) uint64
	binaryOf   func(width int, a, b uint64) uint64
	relationOf func(x, y float64) bool
)

var integerUnaries = map[string]unaryOf{
	"abs": func(w int, a uint64) uint64 {
		if signed(w, a) < 0 {
			return uint64(-signed(w, a))
		}
		return a
	},
	"neg":    func(w int, a uint64) uint64 { return -a },
	"popcnt": func(w int, a uint64) uint64 { return uint64(bits.OnesCount64(a)) },
}

var integerBinaries = map[string]binaryOf{
	"add":       func(w int, a, b uint64) uint64 { return a + b },
	"sub":       func(w int, a, b uint64) uint64 { return a - b },
	"mul":       func(w int, a, b uint64) uint64 { return a * b },
	"add_sat_s": func(w int, a, b uint64) uint64 { return signedRange(w, signed(w, a)+signed(w, b)) },
	"add_sat_u": func(w int, a, b uint64) uint64 { return unsignedRange(w, int64(a)+int64(b)) },
	"sub_sat_s": func(w int, a, b uint64) uint64 { return signedRange(w, signed(w, a)-signed(w, b)) },
	"sub_sat_u": func(w int, a, b uint64) uint64 { return unsignedRange(w, int64(a)-int64(b)) },
	"min_s":     func(w int, a, b uint64) uint64 { return uint64(min(signed(w, a), signed(w, b))) },
	"min_u":     func(w int, a, b uint64) uint64 { return min(a, b) },
	"max_s":     func(w int, a, b uint64) uint64 { return uint64(max(signed(w, a), signed(w, b))) },
	"max_u":     func(w int, a, b uint64) uint64 { return max(a, b) },
	"avgr_u":    func(w int, a, b uint64) uint64 { return (a + b + 1) / 2 },
	"q15mulr_sat_s": func(w int, a, b uint64) uint64 {
		return signedRange(w, (signed(w, a)*signed(w, b)+1<<14)>>15)
	},
	"eq":   func(w int, a, b uint64) uint64 { return ones(a == b) },
	"ne":   func(w int, a, b uint64) uint64 { return ones(a != b) },
	"lt_s": func(w int, a, b uint64) uint64 { return ones(signed(w, a) < signed(w, b)) },
	"lt_u": func(w int, a, b uint64) uint64 { return ones(a < b) },
	"gt_s": func(w int, a, b uint64) uint64 { return ones(signed(w, a) > signed(w, b)) },
	"gt_u": func(w int, a, b uint64) uint64 { return ones(a > b) },
	"le_s": func(w int, a, b uint64) uint64 { return ones(signed(w, a) <= signed(w, b)) },
	"le_u": func(w int, a, b uint64) uint64 { return ones(a <= b) },
	"ge_s": func(w int, a, b uint64) uint64 { return ones(signed(w, a) >= signed(w, b)) },
	"ge_u": func(w int, a, b uint64) uint64 { return ones(a >= b) },
}

var floatUnaries = map[string]unaryOf{
	"abs":     func(w int, a uint64) uint64 { return a &^ (1 << (w - 1)) },
	"neg":     func(w int, a uint64) uint64 { return a ^ 1<<(w-1) },
	"sqrt":    func(w int, a uint64) uint64 { return bitsOf(w, math.Sqrt(value(w, a))) },
	"ceil":    func(w int, a uint64) uint64 { return bitsOf(w, math.Ceil(value(w, a))) },
	"floor":   func(w int, a uint64) uint64 { return bitsOf(w, math.Floor(value(w, a))) },
	"trunc":   func(w int, a uint64) uint64 { return bitsOf(w, math.Trunc(value(w, a))) },
	"nearest": func(w int, a uint64) uint64 { return bitsOf(w, math.RoundToEven(value(w, a))) },
}

var floatBinaries = map[string]binaryOf{
	"add": func(w int, a, b uint64) uint64 { return bitsOf(w, value(w, a)+value(w, b)) },
	"sub": func(w int, a, b uint64) uint64 { return bitsOf(w, value(w, a)-value(w, b)) },
	"mul": func(w int, a, b uint64) uint64 { return bitsOf(w, value(w, a)*value(w, b)) },
	"div": func(w int, a, b uint64) uint64 { return bitsOf(w, value(w, a)/value(w, b)) },
	// The machine's least and greatest of an infinity and a NaN may be the infinity.
	"min": func(w int, a, b uint64) uint64 {
		x, y := value(w, a), value(w, b)
		if math.IsNaN(x) || math.IsNaN(y) {
			return bitsOf(w, math.NaN())
		}
		return bitsOf(w, math.Min(x, y))
	},
	"max": func(w int, a, b uint64) uint64 {
		x, y := value(w, a), value(w, b)
		if math.IsNaN(x) || math.IsNaN(y) {
			return bitsOf(w, math.NaN())
		}
		return bitsOf(w, math.Max(x, y))
	},
	"pmin": func(w int, a, b uint64) uint64 {
		if value(w, b) < value(w, a) {
			return b
		}
		return a
	},
	"pmax": func(w int, a, b uint64) uint64 {
		if value(w, a) < value(w, b) {
			return b
		}
		return a
	},
}

var floatRelations = map[string]relationOf{
	"eq": func(x, y float64) bool { return x == y },
	"ne": func(x, y float64) bool { return x != y },
	"lt": func(x, y float64) bool { return x < y },
	"gt": func(x, y float64) bool { return x > y },
	"le": func(x, y float64) bool { return x <= y },
	"ge": func(x, y float64) bool { return x >= y },
}

// models are what the instructions have to answer, by their names; for some of the names there is no instruction.
func models() map[string]model {
	out := map[string]model{}
	for _, w := range []int{8, 16, 32, 64} {
		addIntegers(out, "i"+strconv.Itoa(w)+"x"+strconv.Itoa(128/w), w)
	}
	for _, w := range []int{32, 64} {
		addFloats(out, "f"+strconv.Itoa(w)+"x"+strconv.Itoa(128/w), w)
	}
	for _, w := range []int{8, 16, 32} {
		addWidths(out, "i"+strconv.Itoa(w)+"x"+strconv.Itoa(128/w), "i"+strconv.Itoa(2*w)+"x"+strconv.Itoa(64/w), w)
	}
	addBits(out)
	addConversions(out)
	return out
}

// oneByOne is the model of an instruction that goes through one vector's lanes.
func oneByOne(width int, do unaryOf) model {
	return func(_ []int, args []api.Value) api.Value {
		var out []uint64
		for _, a := range lanesOf(width, args[0]) {
			out = append(out, do(width, a))
		}
		return vectorOf(width, out)
	}
}

// twoByTwo is the model of an instruction that goes through two vectors' lanes.
func twoByTwo(width int, do binaryOf) model {
	return func(_ []int, args []api.Value) api.Value {
		var out []uint64
		b := lanesOf(width, args[1])
		for i, a := range lanesOf(width, args[0]) {
			out = append(out, do(width, a, b[i]))
		}
		return vectorOf(width, out)
	}
}

// addLanes adds what there is for the lanes of every shape.
func addLanes(out map[string]model, shape string, width, typ int) {
	out[shape+".splat"] = func(_ []int, args []api.Value) api.Value {
		return vectorOf(width, slices.Repeat([]uint64{args[0].Lo}, 128/width))
	}
	out[shape+".extract_lane"] = func(imm []int, args []api.Value) api.Value {
		return api.Value{Type: typ, Lo: lanesOf(width, args[0])[imm[0]]}
	}
	out[shape+".extract_lane_u"] = out[shape+".extract_lane"]
	out[shape+".extract_lane_s"] = func(imm []int, args []api.Value) api.Value {
		return api.Value{Type: typ, Lo: uint64(uint32(signed(width, lanesOf(width, args[0])[imm[0]])))}
	}
	out[shape+".replace_lane"] = func(imm []int, args []api.Value) api.Value {
		l := lanesOf(width, args[0])
		l[imm[0]] = args[1].Lo
		return vectorOf(width, l)
	}
}

func addIntegers(out map[string]model, shape string, width int) {
	addLanes(out, shape, width, map[int]int{8: api.I32, 16: api.I32, 32: api.I32, 64: api.I64}[width])
	for name, do := range integerUnaries {
		out[shape+"."+name] = oneByOne(width, do)
	}
	for name, do := range integerBinaries {
		out[shape+"."+name] = twoByTwo(width, do)
	}
	shifted := func(do func(a, k uint64) uint64) model {
		return func(_ []int, args []api.Value) api.Value {
			k := uint64(uint32(args[1].Lo)) % uint64(width)
			return oneByOne(width, func(_ int, a uint64) uint64 { return do(a, k) })(nil, args)
		}
	}
	out[shape+".shl"] = shifted(func(a, k uint64) uint64 { return a << k })
	out[shape+".shr_u"] = shifted(func(a, k uint64) uint64 { return a >> k })
	out[shape+".shr_s"] = shifted(func(a, k uint64) uint64 { return uint64(signed(width, a) >> k) })
	out[shape+".all_true"] = func(_ []int, args []api.Value) api.Value {
		return one(!slices.Contains(lanesOf(width, args[0]), 0))
	}
	out[shape+".bitmask"] = func(_ []int, args []api.Value) api.Value {
		mask := api.Value{Type: api.I32}
		for i, a := range lanesOf(width, args[0]) {
			if signed(width, a) < 0 {
				mask.Lo |= 1 << i
			}
		}
		return mask
	}
}

func addFloats(out map[string]model, shape string, width int) {
	addLanes(out, shape, width, map[int]int{32: api.F32, 64: api.F64}[width])
	for name, do := range floatUnaries {
		out[shape+"."+name] = oneByOne(width, do)
	}
	for name, do := range floatBinaries {
		out[shape+"."+name] = twoByTwo(width, do)
	}
	for name, do := range floatRelations {
		out[shape+"."+name] = twoByTwo(width, func(w int, a, b uint64) uint64 { return ones(do(value(w, a), value(w, b))) })
	}
}

// addWidths adds what makes lanes twice as wide, or half as wide.
func addWidths(out map[string]model, narrow, wide string, width int) {
	unsigned := func(n uint64) uint64 { return n }
	withSign := func(n uint64) uint64 { return uint64(signed(width, n)) }
	half := 64 / width
	for sign, extend := range map[string]func(uint64) uint64{"_s": withSign, "_u": unsigned} {
		for part, from := range map[string]int{"low_": 0, "high_": half} {
			out[wide+".extend_"+part+narrow+sign] = func(_ []int, args []api.Value) api.Value {
				var l []uint64
				for _, a := range lanesOf(width, args[0])[from : from+half] {
					l = append(l, extend(a))
				}
				return vectorOf(2*width, l)
			}
			out[wide+".extmul_"+part+narrow+sign] = func(_ []int, args []api.Value) api.Value {
				var l []uint64
				for i := range half {
					l = append(l, extend(lanesOf(width, args[0])[from+i])*extend(lanesOf(width, args[1])[from+i]))
				}
				return vectorOf(2*width, l)
			}
		}
		out[wide+".extadd_pairwise_"+narrow+sign] = func(_ []int, args []api.Value) api.Value {
			var l []uint64
			for pair := range slices.Chunk(lanesOf(width, args[0]), 2) {
				l = append(l, extend(pair[0])+extend(pair[1]))
			}
			return vectorOf(2*width, l)
		}
	}
	for sign, nearest := range map[string]func(int, int64) uint64{"_s": signedRange, "_u": unsignedRange} {
		out[narrow+".narrow_"+wide+sign] = func(_ []int, args []api.Value) api.Value {
			var l []uint64
			for _, v := range args {
				for _, a := range lanesOf(2*width, v) {
					l = append(l, nearest(width, signed(2*width, a)))
				}
			}
			return vectorOf(width, l)
		}
	}
	out[wide+".dot_"+narrow+"_s"] = func(_ []int, args []api.Value) api.Value {
		var l []uint64
		a, b := lanesOf(width, args[0]), lanesOf(width, args[1])
		for i := range half {
			l = append(l, uint64(signed(width, a[2*i])*signed(width, b[2*i])+signed(width, a[2*i+1])*signed(width, b[2*i+1])))
		}
		return vectorOf(2*width, l)
	}
}

// addBits adds what has no lanes, or bytes by their places.
func addBits(out map[string]model) {
	bitwise := func(do func(l []uint64) uint64) model {
		return func(_ []int, args []api.Value) api.Value {
			var low, high []uint64
			for _, v := range args {
				low, high = append(low, v.Lo), append(high, v.Hi)
			}
			return api.Value{Type: api.V128, Lo: do(low), Hi: do(high)}
		}
	}
	out["v128.not"] = bitwise(func(l []uint64) uint64 { return ^l[0] })
	out["v128.and"] = bitwise(func(l []uint64) uint64 { return l[0] & l[1] })
	out["v128.or"] = bitwise(func(l []uint64) uint64 { return l[0] | l[1] })
	out["v128.xor"] = bitwise(func(l []uint64) uint64 { return l[0] ^ l[1] })
	out["v128.andnot"] = bitwise(func(l []uint64) uint64 { return l[0] & ^l[1] })
	out["v128.bitselect"] = bitwise(func(l []uint64) uint64 { return l[1] ^ l[2]&(l[0]^l[1]) })
	out["v128.any_true"] = func(_ []int, args []api.Value) api.Value {
		return one(args[0].Lo != 0 || args[0].Hi != 0)
	}
	out["i8x16.shuffle"] = func(imm []int, args []api.Value) api.Value {
		var l []uint64
		for _, i := range imm {
			l = append(l, lanesOf(8, args[i/16])[i%16])
		}
		return vectorOf(8, l)
	}
	out["i8x16.swizzle"] = func(_ []int, args []api.Value) api.Value {
		l := make([]uint64, 16)
		for i, place := range lanesOf(8, args[1]) {
			if place < 16 {
				l[i] = lanesOf(8, args[0])[place]
			}
		}
		return vectorOf(8, l)
	}
}

// addConversions adds what goes between integers and floats, and between both widths of floats.
func addConversions(out map[string]model) {
	trunc := func(width int, least, greatest float64) model {
		return func(_ []int, args []api.Value) api.Value {
			l := make([]uint64, 4)
			for i, a := range lanesOf(width, args[0]) {
				if x := math.Trunc(value(width, a)); !math.IsNaN(x) {
					l[i] = uint64(int64(math.Max(least, math.Min(greatest, x))))
				}
			}
			return vectorOf(32, l)
		}
	}
	out["i32x4.trunc_sat_f32x4_s"] = trunc(32, math.MinInt32, math.MaxInt32)
	out["i32x4.trunc_sat_f32x4_u"] = trunc(32, 0, math.MaxUint32)
	out["i32x4.trunc_sat_f64x2_s_zero"] = trunc(64, math.MinInt32, math.MaxInt32)
	out["i32x4.trunc_sat_f64x2_u_zero"] = trunc(64, 0, math.MaxUint32)
	into := func(width int, number func(a uint64) float64) model {
		return func(_ []int, args []api.Value) api.Value {
			var l []uint64
			for _, a := range lanesOf(32, args[0])[:128/width] {
				l = append(l, bitsOf(width, number(a)))
			}
			return vectorOf(width, l)
		}
	}
	integer := func(a uint64) float64 { return float64(int32(a)) }
	natural := func(a uint64) float64 { return float64(uint32(a)) }
	out["f32x4.convert_i32x4_s"] = into(32, integer)
	out["f32x4.convert_i32x4_u"] = into(32, natural)
	out["f64x2.convert_low_i32x4_s"] = into(64, integer)
	out["f64x2.convert_low_i32x4_u"] = into(64, natural)
	out["f64x2.promote_low_f32x4"] = into(64, func(a uint64) float64 { return value(32, a) })
	out["f32x4.demote_f64x2_zero"] = func(_ []int, args []api.Value) api.Value {
		l := lanesOf(64, args[0])
		return vectorOf(32, []uint64{bitsOf(32, value(64, l[0])), bitsOf(32, value(64, l[1])), 0, 0})
	}
}
