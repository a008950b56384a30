package scalar_test

import (
	"math"
	"math/big"
	"math/bits"
	"strings"

	"bodkin/api"
)

// The rules of the document, worked out from an instruction's name, with numbers of any length and the machine's floats.

// model is what an instruction on single numbers has to answer, and whether there is such an instruction.
func model(name string, args []uint64) (uint64, api.Errno, bool) {
	head, verb, _ := strings.Cut(name, ".")
	a, b := args[0], uint64(0)
	if len(args) > 1 {
		b = args[1]
	}
	if out, e, ok := conversion(widthOf(head), head[0] == 'f', verb, a); ok {
		return out, e, true
	}
	if head[0] == 'f' {
		return float(widthOf(head), verb, a, b)
	}
	return integer(widthOf(head), verb, a, b)
}

// widthOf are the bits of a type's name.
func widthOf(name string) int {
	if strings.HasSuffix(name, "32") {
		return 32
	}
	return 64
}

// lowest are the lowest bits of a number.
func lowest(width int, n uint64) uint64 { return n << (64 - width) >> (64 - width) }

// exact is a number of so many bits as one of any length.
func exact(width int, signed bool, n uint64) *big.Int {
	out := new(big.Int).SetUint64(lowest(width, n))
	if signed && out.Bit(width-1) == 1 {
		out.Sub(out, power(width))
	}
	return out
}

// power is a power of 2.
func power(n int) *big.Int { return new(big.Int).Lsh(big.NewInt(1), uint(n)) }

// cutOf is a number of any length, reduced to so many bits.
func cutOf(width int, n *big.Int) uint64 {
	return new(big.Int).And(n, new(big.Int).Sub(power(width), big.NewInt(1))).Uint64()
}

func one(is bool) uint64 {
	if is {
		return 1
	}
	return 0
}

// integer is what an operation on integers has to answer.
func integer(width int, verb string, a, b uint64) (uint64, api.Errno, bool) {
	switch verb {
	case "eqz":
		return one(a == 0), api.OK, true
	case "clz":
		return uint64(bits.LeadingZeros64(a) - 64 + width), api.OK, true
	case "ctz":
		return uint64(min(bits.TrailingZeros64(a), width)), api.OK, true
	case "popcnt":
		return uint64(bits.OnesCount64(a)), api.OK, true
	case "and":
		return a & b, api.OK, true
	case "or":
		return a | b, api.OK, true
	case "xor":
		return a ^ b, api.OK, true
	case "extend8_s":
		return cutOf(width, exact(8, true, a)), api.OK, true
	case "extend16_s":
		return cutOf(width, exact(16, true, a)), api.OK, true
	case "extend32_s":
		return cutOf(width, exact(32, true, a)), api.OK, true
	}
	signed := strings.HasSuffix(verb, "_s")
	verb = strings.TrimSuffix(strings.TrimSuffix(verb, "_s"), "_u")
	x, y := exact(width, signed, a), exact(width, signed, b)
	if is, ok := related(verb, x.Cmp(y)); ok {
		return one(is), api.OK, true
	}
	if verb == "div" || verb == "rem" {
		out, e := divided(width, signed, verb, x, y)
		return out, e, true
	}
	z := combined(width, verb, x, y)
	if z == nil {
		return 0, api.OK, false
	}
	return cutOf(width, z), api.OK, true
}

// related tells whether a comparison holds, by how two numbers stand, and whether the verb is a comparison.
func related(verb string, order int) (bool, bool) {
	switch verb {
	case "eq":
		return order == 0, true
	case "ne":
		return order != 0, true
	case "lt":
		return order < 0, true
	case "gt":
		return order > 0, true
	case "le":
		return order <= 0, true
	case "ge":
		return order >= 0, true
	}
	return false, false
}

// divided is a quotient or a remainder.
func divided(width int, signed bool, verb string, x, y *big.Int) (uint64, api.Errno) {
	if y.Sign() == 0 {
		return 0, api.TrapDiv
	}
	quotient, remainder := new(big.Int).QuoRem(x, y, new(big.Int))
	if verb == "rem" {
		return cutOf(width, remainder), api.OK
	}
	if signed && quotient.Cmp(power(width-1)) == 0 {
		return 0, api.TrapOverflow
	}
	return cutOf(width, quotient), api.OK
}

// combined is what two integers come to, before it is cut; nil: there is no such verb.
func combined(width int, verb string, x, y *big.Int) *big.Int {
	z := new(big.Int)
	k := uint(cutOf(width, y)) % uint(width)
	switch verb {
	case "add":
		return z.Add(x, y)
	case "sub":
		return z.Sub(x, y)
	case "mul":
		return z.Mul(x, y)
	case "shl":
		return z.Lsh(x, k)
	case "shr":
		return z.Rsh(x, k)
	case "rotl":
		return z.Or(z.Lsh(x, k), new(big.Int).Rsh(x, uint(width)-k))
	case "rotr":
		return z.Or(z.Rsh(x, k), new(big.Int).Lsh(x, uint(width)-k))
	}
	return nil
}

// value is a float as one of the machine's; a float of 32 bits has the same value there.
func value(width int, n uint64) float64 {
	if width == 32 {
		return float64(math.Float32frombits(uint32(n)))
	}
	return math.Float64frombits(n)
}

// bitsOf is a machine's float, rounded to so many bits.
func bitsOf(width int, x float64) uint64 {
	switch {
	case math.IsNaN(x) && width == 32:
		return 0x7fc00000
	case math.IsNaN(x):
		return 0x7ff8000000000000
	case width == 32:
		return uint64(math.Float32bits(float32(x)))
	}
	return math.Float64bits(x)
}

// float is what an operation on floats has to answer. Those of 32 bits are computed with 64 and rounded once more, which is the same.
func float(width int, verb string, a, b uint64) (uint64, api.Errno, bool) {
	sign := uint64(1) << (width - 1)
	x, y := value(width, a), value(width, b)
	switch verb {
	case "abs":
		return a &^ sign, api.OK, true
	case "neg":
		return a ^ sign, api.OK, true
	case "copysign":
		return a&^sign | b&sign, api.OK, true
	case "eq", "lt", "gt", "le", "ge":
		order := 0
		if x < y {
			order = -1
		} else if x > y {
			order = 1
		}
		is, _ := related(verb, order)
		return one(is && x == x && y == y), api.OK, true
	case "ne":
		return one(x != y), api.OK, true
	}
	z, ok := arithmetic(verb, x, y)
	return bitsOf(width, z), api.OK, ok
}

// arithmetic is what one or two of the machine's floats come to, and whether there is such a verb.
func arithmetic(verb string, x, y float64) (float64, bool) {
	switch verb {
	case "ceil":
		return math.Ceil(x), true
	case "floor":
		return math.Floor(x), true
	case "trunc":
		return math.Trunc(x), true
	case "nearest":
		return math.RoundToEven(x), true
	case "sqrt":
		return math.Sqrt(x), true
	case "add":
		return x + y, true
	case "sub":
		return x - y, true
	case "mul":
		return x * y, true
	case "div":
		return x / y, true
	}
	if verb != "min" && verb != "max" {
		return 0, false
	}
	switch {
	case math.IsNaN(x) || math.IsNaN(y):
		return math.NaN(), true
	case verb == "min":
		return math.Min(x, y), true
	}
	return math.Max(x, y), true
}

// conversion is what a conversion has to answer, and whether the verb is one.
func conversion(to int, float bool, verb string, a uint64) (uint64, api.Errno, bool) {
	signed := strings.HasSuffix(verb, "_s")
	verb = strings.TrimSuffix(strings.TrimSuffix(verb, "_s"), "_u")
	from := widthOf(verb)
	switch strings.TrimSuffix(strings.TrimSuffix(verb, "32"), "64") {
	case "wrap_i", "reinterpret_i", "reinterpret_f":
		return lowest(to, a), api.OK, true
	case "extend_i":
		return cutOf(to, exact(from, signed, a)), api.OK, true
	case "trunc_f":
		out, e := truncation(to, signed, false, value(from, a))
		return out, e, true
	case "trunc_sat_f":
		out, e := truncation(to, signed, true, value(from, a))
		return out, e, true
	case "convert_i":
		return rounded(to, exact(from, signed, a)), api.OK, true
	case "demote_f", "promote_f":
		return bitsOf(to, value(from, a)), api.OK, true
	}
	return 0, api.OK, false
}

// rounded is an integer as a float.
func rounded(width int, n *big.Int) uint64 {
	x := new(big.Float).SetInt(n)
	if width == 32 {
		narrow, _ := x.Float32()
		return uint64(math.Float32bits(narrow))
	}
	wide, _ := x.Float64()
	return math.Float64bits(wide)
}

// truncation is a float as an integer.
func truncation(width int, signed, sat bool, x float64) (uint64, api.Errno) {
	least, end := big.NewInt(0), power(width)
	if signed {
		least, end = new(big.Int).Neg(power(width-1)), power(width-1)
	}
	greatest := new(big.Int).Sub(end, big.NewInt(1))
	if math.IsNaN(x) {
		if sat {
			return 0, api.OK
		}
		return 0, api.TrapConvert
	}
	// Beyond all integers it does not matter by how much.
	n, _ := big.NewFloat(max(min(x, 1e300), -1e300)).Int(nil)
	switch {
	case n.Cmp(least) >= 0 && n.Cmp(greatest) <= 0:
		return cutOf(width, n), api.OK
	case !sat:
		return 0, api.TrapOverflow
	case n.Sign() < 0:
		return cutOf(width, least), api.OK
	}
	return cutOf(width, greatest), api.OK
}
