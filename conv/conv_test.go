package conv_test

import (
	"math"
	"math/big"
	"strconv"
	"testing"

	"bodkin/api"
	"bodkin/conv"
)

var (
	widths = []int{32, 64}
	both   = []bool{false, true}
)

// others are widths that are not converted; of 8 and 16 bits there are integers.
var others = []int{0, 1, 8, 16, 31, 33, 63, 65, 80, 128, -32, -64, 32 + 1<<32, 64 + 1<<32, math.MaxInt, math.MinInt}

// garbage lies above the bits of a number of 32 bits.
const garbage = 0xfeedface << 32

const (
	narrowNaN = 0x7fc00000
	wideNaN   = 0x7ff8000000000000
)

// withGarbage is a number with bits above its own.
func withGarbage(bits int, a uint64) uint64 {
	if bits == 64 {
		return a
	}
	return a | garbage
}

// The layout of the formats, as the document states it.

func sign(bits int) uint64 { return 1 << (bits - 1) }

func fractionBits(bits int) int {
	if bits == 32 {
		return 23
	}
	return 52
}

func infinity(bits int) uint64 {
	if bits == 32 {
		return 0x7f800000
	}
	return 0x7ff0000000000000
}

func isNaN(bits int, a uint64) bool { return a&^sign(bits) > infinity(bits) }

// value is a float as one of the machine's; a float of 32 bits has the same value there.
func value(bits int, a uint64) float64 {
	if bits == 32 {
		return float64(math.Float32frombits(uint32(a)))
	}
	return math.Float64frombits(a)
}

// bitsOf is a machine's float, rounded to so many bits.
func bitsOf(bits int, x float64) uint64 {
	switch {
	case math.IsNaN(x) && bits == 32:
		return narrowNaN
	case math.IsNaN(x):
		return wideNaN
	case bits == 32:
		return uint64(math.Float32bits(float32(x)))
	}
	return math.Float64bits(x)
}

// floatsOf are floats at the bounds of the formats and of the integer types, of both signs, and NaNs.
func floatsOf(bits int) []uint64 {
	one, inf := uint64(1)<<fractionBits(bits), infinity(bits)
	out := []uint64{0, 1, 2, one - 1, one, one + 1, inf - one, inf - 2, inf - 1, inf,
		inf + 1, inf + one/2 - 1, inf + one/2, inf + one/2 + 1, inf + one - 1}
	whole := math.Ldexp(1, fractionBits(bits))
	for _, x := range []float64{0.1, 0.25, 0.5, 0.75, 1, 1.5, 1.9, 2, 2.5, 3, 3.5, 127.5, 1e6 + 0.5, whole/2 - 0.5, whole / 2, whole/2 + 0.5, whole - 1, whole, whole + 1, 2 * whole, 1e30} {
		a := bitsOf(bits, x)
		out = append(out, a-1, a, a+1)
	}
	for _, e := range []int{8, 16, 31, 32, 33, 52, 53, 62, 63, 64, 65, 127} {
		a := bitsOf(bits, math.Ldexp(1, e))
		out = append(out, a-2, a-1, a, a+1, a+2, a+one/2)
		out = append(out, bitsOf(bits, math.Ldexp(1, e)-0.5), bitsOf(bits, math.Ldexp(1, e)+0.5))
		out = append(out, bitsOf(bits, math.Ldexp(1, e)-1), bitsOf(bits, math.Ldexp(1, e)+1))
	}
	for _, a := range out {
		out = append(out, a|sign(bits))
	}
	return out
}

// integers are integers at the bounds of the types and of what a float represents exactly, and their opposites.
func integers() []uint64 {
	out := []uint64{0, 1, 2, 3, 5, 7, 10, 100, 624485, 16777217, 16777219, 9007199254740993, 9007199254740995}
	for k := 3; k < 64; k++ {
		n := uint64(1) << k
		out = append(out, n-2, n-1, n, n+1, n+2, n+n/2, 2*n-1)
		for _, p := range []int{23, 24, 25, 52, 53, 54} {
			// Numbers that lie halfway between two floats, or just beside it.
			if half := n >> p; half != 0 {
				out = append(out, n+half-1, n+half, n+half+1, n+3*half-1, n+3*half, n+3*half+1, 2*n-half-1, 2*n-half, 2*n-half+1)
			}
		}
	}
	for _, n := range out {
		out = append(out, -n)
	}
	return out
}

// sequence is numbers without a pattern, the same ones each time.
type sequence uint64

func (s *sequence) next() uint64 {
	*s += 0x9e3779b97f4a7c15
	z := uint64(*s)
	z = (z ^ z>>30) * 0xbf58476d1ce4e5b9
	z = (z ^ z>>27) * 0x94d049bb133111eb
	return z ^ z>>31
}

// float is any float.
func (s *sequence) float(bits int) uint64 { return s.next() >> (64 - bits) }

// middling is a float from 1/16 to 2^67, of either sign.
func (s *sequence) middling(bits int) uint64 {
	p := fractionBits(bits)
	exponent := infinity(bits)>>p/2 - 4 + s.next()%71
	return s.next()<<(bits-1)&sign(bits) | exponent<<p | s.next()&(1<<p-1)
}

// integer is an integer of any length.
func (s *sequence) integer() uint64 {
	return s.next() >> (s.next() % 64) << (s.next() % 64)
}

func hex(n uint64) string { return strconv.FormatUint(n, 16) }

// tell names a call.
func tell(what string, from, to int, signed bool, a uint64) string {
	out := what + " " + strconv.Itoa(from) + " to " + strconv.Itoa(to)
	if signed {
		out += ", signed,"
	}
	return out + " of " + hex(a) + ":"
}

// bounds are the least and the greatest number of an integer type.
func bounds(bits int, signed bool) (least, greatest *big.Int) {
	all := new(big.Int).Lsh(big.NewInt(1), uint(bits))
	if !signed {
		return new(big.Int), all.Sub(all, big.NewInt(1))
	}
	half := all.Rsh(all, 1)
	return new(big.Int).Neg(half), new(big.Int).Sub(half, big.NewInt(1))
}

// low is the so many lowest bits of a number of any length.
func low(bits int, n *big.Int) uint64 {
	all := new(big.Int).Lsh(big.NewInt(1), uint(bits))
	return new(big.Int).Mod(n, all).Uint64()
}

// trunc is what Trunc has to return for widths that there are, by numbers of any length.
func trunc(from, to int, signed, sat bool, a uint64) (uint64, api.Errno) {
	x := value(from, a)
	least, greatest := bounds(to, signed)
	var n *big.Int
	switch {
	case math.IsNaN(x) && sat:
		return 0, api.OK
	case math.IsNaN(x):
		return 0, api.TrapConvert
	case math.IsInf(x, -1):
		n = new(big.Int).Sub(least, big.NewInt(1))
	case math.IsInf(x, 1):
		n = new(big.Int).Add(greatest, big.NewInt(1))
	default:
		n, _ = big.NewFloat(x).Int(nil)
	}
	switch {
	case n.Cmp(least) >= 0 && n.Cmp(greatest) <= 0:
		return low(to, n), api.OK
	case !sat:
		return 0, api.TrapOverflow
	case n.Sign() < 0:
		return low(to, least), api.OK
	}
	return low(to, greatest), api.OK
}

// convert is what Convert has to return for widths that there are, by numbers of any length.
func convert(from, to int, signed bool, a uint64) uint64 {
	n := new(big.Int).SetUint64(a << (64 - from) >> (64 - from))
	if _, greatest := bounds(from, signed); n.Cmp(greatest) > 0 {
		n.Sub(n, new(big.Int).Lsh(big.NewInt(1), uint(from)))
	}
	exact := new(big.Float).SetInt(n)
	if to == 32 {
		x, _ := exact.Float32()
		return uint64(math.Float32bits(x))
	}
	x, _ := exact.Float64()
	return math.Float64bits(x)
}

// checkTrunc holds Trunc against numbers of any length, into all types.
func checkTrunc(t *testing.T, from int, a uint64) {
	t.Helper()
	for _, to := range widths {
		for _, signed := range both {
			for _, sat := range both {
				want, trap := trunc(from, to, signed, sat, a)
				for _, b := range []uint64{a, withGarbage(from, a)} {
					if got, e := conv.Trunc(from, to, signed, sat, b); got != want || e != trap {
						t.Fatal(tell("Trunc", from, to, signed, b), "sat", sat, "is", hex(got), int(e), "not", hex(want), int(trap))
					}
				}
			}
		}
	}
}

// checkConvert holds Convert against numbers of any length, from and into all types.
func checkConvert(t *testing.T, a uint64) {
	t.Helper()
	for _, from := range widths {
		for _, to := range widths {
			for _, signed := range both {
				want := convert(from, to, signed, a)
				for _, b := range []uint64{a, withGarbage(from, a)} {
					if got, e := conv.Convert(from, to, signed, b); got != want || e != api.OK {
						t.Fatal(tell("Convert", from, to, signed, b), hex(got), int(e), "not", hex(want))
					}
				}
			}
		}
	}
}

// P4.1: Trunc.

func TestTruncExamples(t *testing.T) {
	const yes, no = true, false
	for _, c := range []struct {
		from, to    int
		signed, sat bool
		a, want     uint64
		trap        api.Errno
	}{
		{32, 32, yes, no, 0xbff33333, 4294967295, api.OK}, // -1.9
		{64, 32, no, no, 0x41f0000000000000, 0, api.TrapOverflow},
		{64, 32, no, yes, 0x41f0000000000000, 4294967295, api.OK}, // 2^32
		{32, 32, yes, no, 0, 0, api.OK},
		{32, 32, yes, no, 0x80000000, 0, api.OK}, // -0
		{64, 64, no, no, 1 << 63, 0, api.OK},
		{32, 64, yes, no, 1, 0, api.OK}, // the smallest
		{32, 64, no, no, 0x80000001, 0, api.OK},
		{32, 32, no, no, 0xbf7fffff, 0, api.OK}, // a little above -1
		{32, 32, no, no, 0xbf800000, 0, api.TrapOverflow},
		{32, 32, no, yes, 0xbf800000, 0, api.OK},
		{32, 64, no, no, 0xbf800000, 0, api.TrapOverflow},
		{64, 64, no, yes, 0xbff0000000000000, 0, api.OK},
		{64, 64, yes, no, 0xbff0000000000000, math.MaxUint64, api.OK},
		{32, 32, yes, no, 0x4effffff, 0x7fffff80, api.OK}, // the last one below 2^31
		{32, 32, yes, no, 0x4f000000, 0, api.TrapOverflow},
		{32, 32, yes, yes, 0x4f000000, 0x7fffffff, api.OK},
		{32, 32, no, no, 0x4f000000, 0x80000000, api.OK},
		{32, 32, yes, no, 0xcf000000, 0x80000000, api.OK}, // -2^31
		{32, 32, yes, no, 0xcf000001, 0, api.TrapOverflow},
		{32, 32, yes, yes, 0xcf000001, 0x80000000, api.OK},
		{64, 32, yes, no, 0x41dfffffffffffff, 0x7fffffff, api.OK}, // a little below 2^31
		{64, 32, yes, no, 0x41e0000000000000, 0, api.TrapOverflow},
		{64, 32, yes, no, 0xc1e00000001fffff, 0x80000000, api.OK}, // a little above -2^31 - 1
		{64, 32, yes, no, 0xc1e0000000200000, 0, api.TrapOverflow},
		{64, 32, yes, yes, 0xc1e0000000200000, 0x80000000, api.OK},
		{64, 32, no, no, 0x41efffffffffffff, 0xffffffff, api.OK}, // a little below 2^32
		{64, 64, yes, no, 0x43dfffffffffffff, 0x7ffffffffffffc00, api.OK},
		{64, 64, yes, no, 0x43e0000000000000, 0, api.TrapOverflow}, // 2^63
		{64, 64, yes, yes, 0x43e0000000000000, math.MaxInt64, api.OK},
		{64, 64, no, no, 0x43e0000000000000, 1 << 63, api.OK},
		{64, 64, yes, no, 0xc3e0000000000000, 1 << 63, api.OK},
		{64, 64, yes, no, 0xc3e0000000000001, 0, api.TrapOverflow},
		{64, 64, yes, yes, 0xc3e0000000000001, 1 << 63, api.OK},
		{64, 64, no, no, 0x43efffffffffffff, 0xfffffffffffff800, api.OK},
		{64, 64, no, no, 0x43f0000000000000, 0, api.TrapOverflow}, // 2^64
		{64, 64, no, yes, 0x43f0000000000000, math.MaxUint64, api.OK},
		{32, 64, no, no, 0x5f800000, 0, api.TrapOverflow},
		{32, 64, no, yes, 0x5f800001, math.MaxUint64, api.OK},
		{64, 64, yes, yes, 0x7fefffffffffffff, math.MaxInt64, api.OK}, // the greatest
		{64, 32, no, yes, 0xffefffffffffffff, 0, api.OK},
	} {
		if got, e := conv.Trunc(c.from, c.to, c.signed, c.sat, c.a); got != c.want || e != c.trap {
			t.Error(tell("Trunc", c.from, c.to, c.signed, c.a), "sat", c.sat, "is", hex(got), int(e), "not", hex(c.want), int(c.trap))
		}
	}
}

func TestTruncOfNaNs(t *testing.T) {
	for _, from := range widths {
		for _, a := range []uint64{infinity(from) + 1, infinity(from) + 12345, bitsOf(from, math.NaN()), sign(from) - 1, sign(from) | (infinity(from) + 1), 2*sign(from) - 1} {
			for _, to := range widths {
				for _, signed := range both {
					if got, e := conv.Trunc(from, to, signed, true, a); got != 0 || e != api.OK {
						t.Error(tell("Trunc", from, to, signed, a), "with sat", hex(got), int(e))
					}
					if got, e := conv.Trunc(from, to, signed, false, a); got != 0 || e != api.TrapConvert {
						t.Error(tell("Trunc", from, to, signed, a), "without sat", hex(got), int(e))
					}
				}
			}
		}
	}
}

func TestTruncOfInfinities(t *testing.T) {
	for _, from := range widths {
		above := infinity(from)
		below := above | sign(from)
		for _, c := range []struct {
			to     int
			signed bool
			a      uint64
			want   uint64
		}{
			{32, true, above, 0x7fffffff}, {32, true, below, 0x80000000}, {32, false, above, 0xffffffff}, {32, false, below, 0},
			{64, true, above, math.MaxInt64}, {64, true, below, 1 << 63}, {64, false, above, math.MaxUint64}, {64, false, below, 0},
		} {
			if got, e := conv.Trunc(from, c.to, c.signed, true, c.a); got != c.want || e != api.OK {
				t.Error(tell("Trunc", from, c.to, c.signed, c.a), "with sat", hex(got), int(e), "not", hex(c.want))
			}
			if got, e := conv.Trunc(from, c.to, c.signed, false, c.a); got != 0 || e != api.TrapOverflow {
				t.Error(tell("Trunc", from, c.to, c.signed, c.a), "without sat", hex(got), int(e))
			}
		}
	}
}

func TestTrunc(t *testing.T) {
	s := sequence(41)
	for _, from := range widths {
		for _, a := range floatsOf(from) {
			checkTrunc(t, from, a)
		}
		for range 20000 {
			checkTrunc(t, from, s.middling(from))
			checkTrunc(t, from, s.float(from))
		}
	}
}

func TestTruncOfWrongWidths(t *testing.T) {
	// The width comes ahead of the float: a NaN and a number that is too great are told as wrong widths too.
	for _, a := range []uint64{0, 1, 0x3f800000, 0x7f800000, narrowNaN, 0x43f0000000000000, wideNaN, math.MaxUint64} {
		for _, wrong := range others {
			for _, right := range append([]int{wrong}, widths...) {
				for _, signed := range both {
					for _, sat := range both {
						if got, e := conv.Trunc(wrong, right, signed, sat, a); got != 0 || e != api.ErrArg {
							t.Error(tell("Trunc", wrong, right, signed, a), hex(got), int(e))
						}
						if got, e := conv.Trunc(right, wrong, signed, sat, a); got != 0 || e != api.ErrArg {
							t.Error(tell("Trunc", right, wrong, signed, a), hex(got), int(e))
						}
					}
				}
			}
		}
	}
}

// P4.2: Convert.

func TestConvertExamples(t *testing.T) {
	const yes, no = true, false
	for _, c := range []struct {
		from, to int
		signed   bool
		a, want  uint64
	}{
		{64, 32, yes, 16777217, 1266679808},
		{64, 32, no, 16777217, 1266679808},
		{64, 32, no, 16777219, 0x4b800002},
		{32, 32, yes, 0, 0},
		{32, 64, no, 0, 0},
		{64, 64, yes, 0, 0},
		{32, 32, yes, 1 << 32, 0}, // bits above its own
		{32, 32, yes, 1, 0x3f800000},
		{32, 32, yes, 0xffffffff, 0xbf800000}, // -1
		{32, 32, no, 0xffffffff, 0x4f800000},
		{32, 64, yes, 0xffffffff, 0xbff0000000000000},
		{32, 64, no, 0xffffffff, 0x41efffffffe00000},
		{64, 64, yes, 0xffffffff, 0x41efffffffe00000},
		{32, 32, yes, 0x7fffffff, 0x4f000000},
		{32, 32, yes, 0x80000000, 0xcf000000},
		{32, 32, no, 0x80000000, 0x4f000000},
		{32, 64, yes, 0x80000000, 0xc1e0000000000000},
		{64, 64, yes, math.MaxInt64, 0x43e0000000000000},
		{64, 64, yes, 1 << 63, 0xc3e0000000000000},
		{64, 64, no, 1 << 63, 0x43e0000000000000},
		{64, 64, no, math.MaxUint64, 0x43f0000000000000},
		{64, 64, no, math.MaxUint64 - 1<<10, 0x43efffffffffffff},
		{64, 64, no, math.MaxUint64 - 1<<10 + 1, 0x43f0000000000000}, // halfway to 2^64, which is even
		{64, 32, no, math.MaxUint64, 0x5f800000},
		{64, 32, yes, math.MaxUint64, 0xbf800000},
		{64, 64, yes, 9007199254740993, 0x4340000000000000},
		{64, 64, yes, 9007199254740995, 0x4340000000000002},
		{64, 64, yes, 0xffdfffffffffffff, 0xc340000000000000}, // -9007199254740993
		{64, 32, yes, 0x7fffff4000000001, 0x5effffff},         // rounded once: by way of a float of 64 bits it would be 5efffffe
	} {
		if got, e := conv.Convert(c.from, c.to, c.signed, c.a); got != c.want || e != api.OK {
			t.Error(tell("Convert", c.from, c.to, c.signed, c.a), hex(got), int(e), "not", hex(c.want))
		}
	}
}

func TestConvert(t *testing.T) {
	for _, a := range integers() {
		checkConvert(t, a)
	}
	s := sequence(42)
	for range 30000 {
		checkConvert(t, s.next())
		checkConvert(t, s.integer())
	}
}

func TestConvertOfWrongWidths(t *testing.T) {
	for _, a := range []uint64{0, 1, 16777217, 1 << 31, 1 << 58, 1 << 63, math.MaxUint64} {
		for _, wrong := range others {
			for _, right := range append([]int{wrong}, widths...) {
				for _, signed := range both {
					if got, e := conv.Convert(wrong, right, signed, a); got != 0 || e != api.ErrArg {
						t.Error(tell("Convert", wrong, right, signed, a), hex(got), int(e))
					}
					if got, e := conv.Convert(right, wrong, signed, a); got != 0 || e != api.ErrArg {
						t.Error(tell("Convert", right, wrong, signed, a), hex(got), int(e))
					}
				}
			}
		}
	}
}

// P4.3: Promote and Demote.

func TestPromoteExamples(t *testing.T) {
	for _, c := range []struct{ a, want uint64 }{
		{0, 0},
		{0x80000000, 1 << 63},
		{0x3f800000, 0x3ff0000000000000},
		{0xbfc00000, 0xbff8000000000000},
		{1, 0x36a0000000000000}, // the smallest
		{0x80000001, 0xb6a0000000000000},
		{0x007fffff, 0x380fffffc0000000},
		{0x00800000, 0x3810000000000000},
		{0x7f7fffff, 0x47efffffe0000000}, // the greatest
		{0x7f800000, 0x7ff0000000000000},
		{0xff800000, 0xfff0000000000000},
		{0x7fc00000, wideNaN},
		{0xffc00000, wideNaN},
		{0x7f800001, wideNaN},
		{0xffffffff, wideNaN},
		{1 << 32, 0}, // bits above its own
		{0xfff000003f800000, 0x3ff0000000000000},
	} {
		if got := conv.Promote(c.a); got != c.want {
			t.Error("Promote of", hex(c.a), "is", hex(got), "not", hex(c.want))
		}
	}
}

func TestDemoteExamples(t *testing.T) {
	for _, c := range []struct{ a, want uint64 }{
		{0, 0},
		{1 << 63, 0x80000000},
		{0x3ff0000000000000, 0x3f800000},
		{0xbff8000000000000, 0xbfc00000},
		{0x3ff0000010000000, 0x3f800000}, // halfway, and 1 is even
		{0x3ff0000010000001, 0x3f800001},
		{0x3ff0000030000000, 0x3f800002},
		{0x3ff000002fffffff, 0x3f800001},
		{0x3fffffffffffffff, 0x40000000},
		{0x47efffffe0000000, 0x7f7fffff},
		{0x47efffffefffffff, 0x7f7fffff},
		{0x47effffff0000000, 0x7f800000}, // halfway to the one that would follow the greatest
		{0xc7effffff0000000, 0xff800000},
		{0x7fefffffffffffff, 0x7f800000},
		{0x7ff0000000000000, 0x7f800000},
		{0xfff0000000000000, 0xff800000},
		{0x380fffffffffffff, 0x00800000},
		{0x380fffffc0000000, 0x007fffff},
		{0x36a0000000000000, 1},
		{0x3690000000000000, 0}, // half of the smallest
		{0xb690000000000000, 0x80000000},
		{0x3690000000000001, 1},
		{0xb690000000000001, 0x80000001},
		{0x36a8000000000000, 2}, // one and a half of the smallest
		{0x36b4000000000000, 2}, // two and a half
		{0x36b8000000000000, 3},
		{1, 0},
		{1<<63 | 1, 0x80000000},
		{wideNaN, narrowNaN},
		{1<<63 | wideNaN, narrowNaN},
		{0x7ff0000000000001, narrowNaN},
		{math.MaxUint64, narrowNaN},
	} {
		if got := conv.Demote(c.a); got != c.want {
			t.Error("Demote of", hex(c.a), "is", hex(got), "not", hex(c.want))
		}
	}
}

func checkPromote(t *testing.T, a uint64) {
	t.Helper()
	want := bitsOf(64, value(32, a))
	for _, b := range []uint64{a, withGarbage(32, a)} {
		if got := conv.Promote(b); got != want {
			t.Fatal("Promote of", hex(b), "is", hex(got), "not", hex(want))
		}
	}
}

func checkDemote(t *testing.T, a uint64) {
	t.Helper()
	want := bitsOf(32, value(64, a))
	if got := conv.Demote(a); got != want {
		t.Fatal("Demote of", hex(a), "is", hex(got), "not", hex(want))
	}
}

func TestPromote(t *testing.T) {
	for _, a := range floatsOf(32) {
		checkPromote(t, a)
	}
	for a := uint64(0); a < 1<<32; a += 16381 {
		checkPromote(t, a)
	}
}

func TestDemote(t *testing.T) {
	for _, a := range floatsOf(64) {
		checkDemote(t, a)
	}
	s := sequence(43)
	// Floats of 64 bits that lie at a float of 32 bits, halfway to the next one, or just beside that.
	for range 100000 {
		a := bitsOf(64, value(32, s.float(32)))
		for _, b := range []uint64{a - 1, a, a + 1, a + 1<<28 - 1, a + 1<<28, a + 1<<28 + 1, a + s.next()%(1<<30)} {
			checkDemote(t, b)
		}
		checkDemote(t, s.next())
	}
	// Those that become floats with fewer bits, or none.
	for e := uint64(0x3ff - 126 - 30); e < 0x3ff-120; e++ {
		for range 500 {
			checkDemote(t, s.next()&(1<<63)|e<<52|s.next()&(1<<52-1)>>(s.next()%52)<<(s.next()%52)&(1<<52-1))
		}
	}
}

// P4.4: what follows.

func TestDemotePromoted(t *testing.T) {
	check := func(a uint64) {
		if isNaN(32, a) {
			return
		}
		if b := conv.Demote(conv.Promote(a)); b != a {
			t.Fatal("Demote of Promote of", hex(a), "is", hex(b))
		}
	}
	for _, a := range floatsOf(32) {
		check(a)
	}
	for a := uint64(0); a < 1<<32; a += 12289 {
		check(a)
	}
}

// exact tells whether a float of so many bits represents a number of this size.
func exact(bits int, size uint64) bool {
	for size != 0 && size&1 == 0 {
		size >>= 1
	}
	return size>>(fractionBits(bits)+1) == 0
}

func TestTruncConverted(t *testing.T) {
	check := func(from, to int, signed bool, a uint64) {
		size := a
		if signed && a&sign(from) != 0 {
			size = -a << (64 - from) >> (64 - from)
		}
		if !exact(to, size) {
			return
		}
		for _, sat := range both {
			x, e := conv.Convert(from, to, signed, a)
			if e != api.OK {
				t.Fatal(tell("Convert", from, to, signed, a), int(e))
			}
			if b, e := conv.Trunc(to, from, signed, sat, x); b != a || e != api.OK {
				t.Fatal(tell("Trunc of Convert", from, to, signed, a), hex(b), int(e))
			}
		}
	}
	all := integers()
	s := sequence(44)
	for range 20000 {
		all = append(all, s.integer(), s.next()>>(11+s.next()%53)<<(s.next()%12), -(s.next() >> 40))
	}
	for _, a := range all {
		for _, to := range widths {
			for _, signed := range both {
				check(64, to, signed, a)
				check(32, to, signed, a&(1<<32-1))
			}
		}
	}
}
