package floats_test

import (
	"math"
	"math/big"
	"strconv"
	"testing"

	"bodkin/api"
	"bodkin/floats"
)

var widths = []int{32, 64}

// others are widths that there are not.
var others = []int{0, 1, 8, 16, 31, 33, 63, 65, 80, 128, -32, -64, 32 + 1<<32, math.MaxInt, math.MinInt}

// garbage lies above the bits of a float of 32 bits.
const garbage = 0xfeedface << 32

// withGarbage is a float with bits above its own.
func withGarbage(bits int, a uint64) uint64 {
	if bits == 64 {
		return a
	}
	return a | garbage
}

// The layout of the formats, as the document states it.

func fractionBits(bits int) int {
	if bits == 32 {
		return 23
	}
	return 52
}

func lowest(bits int) int {
	if bits == 32 {
		return -126 - 23
	}
	return -1022 - 52
}

func sign(bits int) uint64 { return 1 << (bits - 1) }

func infinity(bits int) uint64 {
	if bits == 32 {
		return 0x7f800000
	}
	return 0x7ff0000000000000
}

func canonical(bits int) uint64 {
	if bits == 32 {
		return 0x7fc00000
	}
	return 0x7ff8000000000000
}

func isNaN(bits int, a uint64) bool { return a&^sign(bits) > infinity(bits) }

func isFinite(bits int, a uint64) bool { return a&^sign(bits) < infinity(bits) }

// value is a float as one of the machine's; a float of 32 bits has the same value there.
func value(bits int, a uint64) float64 {
	if bits == 32 {
		return float64(math.Float32frombits(uint32(a)))
	}
	return math.Float64frombits(a)
}

// bitsOf is a machine's float, rounded to so many bits.
func bitsOf(bits int, x float64) uint64 {
	switch {
	case math.IsNaN(x):
		return canonical(bits)
	case bits == 32:
		return uint64(math.Float32bits(float32(x)))
	}
	return math.Float64bits(x)
}

// edges are floats at the bounds of what there is, of both signs.
func edges(bits int) []uint64 {
	p := fractionBits(bits)
	one, inf := uint64(1)<<p, infinity(bits)
	out := []uint64{0, 1, 2, 3, one / 2, one/2 + 1, one - 2, one - 1, one, one + 1, one + 2, 2*one - 1, 2 * one, 2*one + 1, 3*one - 1,
		inf - one - 1, inf - one, inf - one/2, inf - 3, inf - 2, inf - 1, inf,
		inf + 1, inf + one/2 - 1, inf + one/2, inf + one/2 + 1, inf + one - 1}
	whole := math.Ldexp(1, p)
	for _, x := range []float64{0.1, 0.25, 0.5, 0.75, 1, 4. / 3, 1.5, 2, 2.5, 3, 3.5, 4, 5, 7, 10, 100.5, whole / 4, whole/4 + 0.5, whole/2 - 0.5, whole / 2, whole/2 + 0.5, whole/2 + 1, whole - 0.5, whole - 1, whole, whole + 1, whole + 2, 2*whole - 1, 2 * whole, 4 * whole} {
		a := bitsOf(bits, x)
		out = append(out, a-1, a, a+1)
	}
	// Squares and roots of these lie at the ends of the range.
	for _, e := range []int{lowest(bits) / 2, lowest(bits)/2 - 1, -lowest(bits) / 2, -lowest(bits)/2 - p/2, -p, -p - 1, -p - 2, p + 1, p + 2, p + 3} {
		a := bitsOf(bits, math.Ldexp(1, e))
		out = append(out, a-1, a, a+1, a+one/2, a+one-1)
	}
	for _, a := range out {
		out = append(out, a|sign(bits))
	}
	return out
}

// sequence is numbers without a pattern, the same ones each time.
type sequence uint64

func (s *sequence) next() uint64 {
	*s += 0x9e3779b97f4a7c15
	z := uint64(*s)
	z = (z ^ z>>30) * 0xbf58476d1ce4e5b9
	z = (z ^ z>>27) * 0x94d049bb133111eb
	return z ^ z>>31
}

// float is any float.
func (s *sequence) float(bits int) uint64 { return s.next() >> (64 - bits) }

// near is a float whose exponent is not far from another one's, with few or many bits in its fraction.
func (s *sequence) near(bits int, a uint64) uint64 {
	p := fractionBits(bits)
	exponent := a&^sign(bits)>>p + s.next()%uint64(2*p+8)
	exponent = max(exponent, uint64(p+4)) - uint64(p+4)
	exponent = min(exponent, infinity(bits)>>p-1)
	fraction := s.next() & (1<<p - 1) >> (s.next() % uint64(p)) << (s.next() % uint64(p))
	return s.next()<<(bits-1)&sign(bits) | exponent<<p | fraction&(1<<p-1)
}

// tell names a call.
func tell(what string, bits, op int, floats ...uint64) string {
	out := what + " " + strconv.Itoa(bits) + ", op " + strconv.Itoa(op) + " of"
	for _, n := range floats {
		out += " " + strconv.FormatUint(n, 16)
	}
	return out + ":"
}

func hex(n uint64) string { return strconv.FormatUint(n, 16) }

// binNarrow is what Bin has to return for floats of 32 bits.
func binNarrow(op int, a, b uint64) uint64 {
	x, y := math.Float32frombits(uint32(a)), math.Float32frombits(uint32(b))
	switch op {
	case floats.Add:
		x += y
	case floats.Sub:
		x -= y
	case floats.Mul:
		x *= y
	case floats.Div:
		x /= y
	case floats.Min:
		x = min(x, y)
	case floats.Max:
		x = max(x, y)
	}
	if x != x {
		return 0x7fc00000
	}
	return uint64(math.Float32bits(x))
}

// binWide is what Bin has to return for floats of 64 bits.
func binWide(op int, a, b uint64) uint64 {
	x, y := math.Float64frombits(a), math.Float64frombits(b)
	switch op {
	case floats.Add:
		x += y
	case floats.Sub:
		x -= y
	case floats.Mul:
		x *= y
	case floats.Div:
		x /= y
	case floats.Min:
		x = min(x, y)
	case floats.Max:
		x = max(x, y)
	}
	if x != x {
		return 0x7ff8000000000000
	}
	return math.Float64bits(x)
}

// bin is what Bin has to return, by the machine's floats.
func bin(bits, op int, a, b uint64) uint64 {
	switch op {
	case floats.Copysign:
		return a&^sign(bits) | b&sign(bits)
	case floats.PMin:
		if value(bits, b) < value(bits, a) {
			return b
		}
		return a
	case floats.PMax:
		if value(bits, a) < value(bits, b) {
			return b
		}
		return a
	}
	if bits == 32 {
		return binNarrow(op, a, b)
	}
	return binWide(op, a, b)
}

// un is what Un has to return, by the machine's floats.
func un(bits, op int, a uint64) uint64 {
	x := value(bits, a)
	switch op {
	case floats.Abs:
		return a &^ sign(bits)
	case floats.Neg:
		return a ^ sign(bits)
	case floats.Sqrt:
		x = math.Sqrt(x)
	case floats.Ceil:
		x = math.Ceil(x)
	case floats.Floor:
		x = math.Floor(x)
	case floats.Trunc:
		x = math.Trunc(x)
	case floats.Nearest:
		x = math.RoundToEven(x)
	}
	return bitsOf(bits, x)
}

// rel is what Rel has to return, by the machine's floats.
func rel(bits, op int, a, b uint64) bool {
	x, y := value(bits, a), value(bits, b)
	switch op {
	case floats.Eq:
		return x == y
	case floats.Ne:
		return x != y
	case floats.Lt:
		return x < y
	case floats.Gt:
		return x > y
	case floats.Le:
		return x <= y
	}
	return x >= y
}

func checkBin(t *testing.T, bits, op int, a, b uint64) {
	t.Helper()
	want := bin(bits, op, a, b)
	if got, e := floats.Bin(bits, op, a, b); got != want || e != api.OK {
		t.Fatal(tell("Bin", bits, op, a, b), hex(got), int(e), "not", hex(want))
	}
	if got, e := floats.Bin(bits, op, withGarbage(bits, a), withGarbage(bits, b)); got != want || e != api.OK {
		t.Fatal(tell("Bin", bits, op, a, b), "with more bits above", hex(got), int(e), "not", hex(want))
	}
}

func checkUn(t *testing.T, bits, op int, a uint64) {
	t.Helper()
	want := un(bits, op, a)
	if got, e := floats.Un(bits, op, a); got != want || e != api.OK {
		t.Fatal(tell("Un", bits, op, a), hex(got), int(e), "not", hex(want))
	}
	if got, e := floats.Un(bits, op, withGarbage(bits, a)); got != want || e != api.OK {
		t.Fatal(tell("Un", bits, op, a), "with more bits above", hex(got), int(e), "not", hex(want))
	}
}

func checkRel(t *testing.T, bits, op int, a, b uint64) {
	t.Helper()
	want := rel(bits, op, a, b)
	if got, e := floats.Rel(bits, op, a, b); got != want || e != api.OK {
		t.Fatal(tell("Rel", bits, op, a, b), got, int(e), "not", want)
	}
	if got, e := floats.Rel(bits, op, withGarbage(bits, a), withGarbage(bits, b)); got != want || e != api.OK {
		t.Fatal(tell("Rel", bits, op, a, b), "with more bits above", got, int(e), "not", want)
	}
}

// P3.1: arguments and kinds.

func TestNumbersOfOperations(t *testing.T) {
	for what, l := range map[string][]int{
		"Bin":  {floats.Add, floats.Sub, floats.Mul, floats.Div, floats.Min, floats.Max, floats.Copysign, floats.PMin, floats.PMax},
		"Un":   {floats.Abs, floats.Neg, floats.Sqrt, floats.Ceil, floats.Floor, floats.Trunc, floats.Nearest},
		"Rel":  {floats.Eq, floats.Ne, floats.Lt, floats.Gt, floats.Le, floats.Ge},
		"Kind": {floats.Nought, floats.Finite, floats.Infinity, floats.NaN},
	} {
		for i, op := range l {
			if op != i+1 {
				t.Error(what, "has the number", op, "at place", i)
			}
		}
	}
}

func TestWrongWidths(t *testing.T) {
	for _, bits := range others {
		for _, a := range []uint64{0, 1, 0x3f800000, 0x7fc00000, 1 << 58, 0x7ff0000000000000, math.MaxUint64} {
			for op := -1; op <= floats.PMax+1; op++ {
				wrong(t, bits, op, a, true, true, true)
			}
			if k := floats.Kind(bits, a); k != 0 {
				t.Error("Kind", bits, "of", hex(a), "is", k)
			}
			if neg, m, e, err := floats.Parts(bits, a); neg || m != 0 || e != 0 || err != api.ErrArg {
				t.Error("Parts", bits, "of", hex(a), "are", neg, m, e, int(err))
			}
			for _, more := range []bool{false, true} {
				if n, err := floats.Round(bits, true, a, 3, more); n != 0 || err != api.ErrArg {
					t.Error("Round", bits, "of", hex(a), "is", n, int(err))
				}
			}
		}
		if n := floats.Canonical(bits); n != 0 {
			t.Error("Canonical", bits, "is", n)
		}
	}
}

func TestWrongOperations(t *testing.T) {
	for _, bits := range widths {
		for _, a := range []uint64{0, 0x3f800000, infinity(bits), canonical(bits)} {
			for _, op := range []int{0, -1, -floats.Add, 1 << 32, 1<<32 + floats.Add, math.MaxInt, math.MinInt} {
				wrong(t, bits, op, a, true, true, true)
			}
			for op := range 100 {
				wrong(t, bits, op, a, op < floats.Add || op > floats.PMax, op < floats.Abs || op > floats.Nearest, op < floats.Eq || op > floats.Ge)
			}
		}
	}
}

// wrong checks that those of Bin, Un and Rel that are asked for do not take an operation.
func wrong(t *testing.T, bits, op int, a uint64, isBin, isUn, isRel bool) {
	t.Helper()
	if n, e := floats.Bin(bits, op, a, a); isBin && (n != 0 || e != api.ErrArg) {
		t.Error(tell("Bin", bits, op, a, a), n, int(e))
	}
	if n, e := floats.Un(bits, op, a); isUn && (n != 0 || e != api.ErrArg) {
		t.Error(tell("Un", bits, op, a), n, int(e))
	}
	if is, e := floats.Rel(bits, op, a, a); isRel && (is || e != api.ErrArg) {
		t.Error(tell("Rel", bits, op, a, a), is, int(e))
	}
}

func TestKind(t *testing.T) {
	for _, c := range []struct {
		bits int
		a    uint64
		want int
	}{
		{32, 0, floats.Nought}, {32, 0x80000000, floats.Nought}, {32, 1 << 32, floats.Nought}, {32, 0x3ff0000000000000, floats.Nought},
		{32, 1, floats.Finite}, {32, 0x80000001, floats.Finite}, {32, 0x007fffff, floats.Finite}, {32, 0x3f800000, floats.Finite}, {32, 0x7f7fffff, floats.Finite}, {32, 0xff7fffff, floats.Finite},
		{32, 0x7f800000, floats.Infinity}, {32, 0xff800000, floats.Infinity}, {32, 0x1ff800000, floats.Infinity},
		{32, 0x7f800001, floats.NaN}, {32, 0x7fc00000, floats.NaN}, {32, 0xffffffff, floats.NaN},
		{64, 0, floats.Nought}, {64, 1 << 63, floats.Nought},
		{64, 1, floats.Finite}, {64, 0x7f800000, floats.Finite}, {64, 1 << 32, floats.Finite}, {64, 0x7fefffffffffffff, floats.Finite}, {64, 0xffefffffffffffff, floats.Finite},
		{64, 0x7ff0000000000000, floats.Infinity}, {64, 0xfff0000000000000, floats.Infinity},
		{64, 0x7ff0000000000001, floats.NaN}, {64, 0xfff8000000000000, floats.NaN}, {64, math.MaxUint64, floats.NaN},
	} {
		if k := floats.Kind(c.bits, c.a); k != c.want {
			t.Error("Kind", c.bits, "of", hex(c.a), "is", k, "not", c.want)
		}
	}
}

func TestCanonical(t *testing.T) {
	if n := floats.Canonical(32); n != 0x7fc00000 {
		t.Error("Canonical 32 is", hex(n))
	}
	if n := floats.Canonical(64); n != 0x7ff8000000000000 {
		t.Error("Canonical 64 is", hex(n))
	}
}

// P3.2: binary operations.

func TestBinExamples(t *testing.T) {
	const inf, minusInf, one, minusOne, minusNought = 0x7f800000, 0xff800000, 0x3f800000, 0xbf800000, 0x80000000
	const nan, signalling, minusNaN = 0x7fc00000, 0x7f800001, 0xffc12345
	for _, c := range []struct {
		bits, op   int
		a, b, want uint64
	}{
		{32, floats.Add, 1065353216, 1073741824, 1077936128},
		{64, floats.Div, 0x3ff0000000000000, 0x4008000000000000, 4599676419421066581},
		{32, floats.Add, minusNought, minusNought, minusNought},
		{32, floats.Add, minusNought, 0, 0},
		{32, floats.Add, one, minusOne, 0},
		{32, floats.Sub, 0, 0, 0},
		{32, floats.Sub, minusNought, 0, minusNought},
		{32, floats.Sub, one, one, 0},
		{32, floats.Add, inf, minusInf, nan},
		{32, floats.Sub, inf, inf, nan},
		{32, floats.Sub, inf, minusInf, inf},
		{32, floats.Sub, one, inf, minusInf},
		{32, floats.Add, 0x7f7fffff, 0x73000000, inf}, // half a step above the largest
		{32, floats.Add, 0x7f7fffff, 0x72ffffff, 0x7f7fffff},
		{32, floats.Add, one, 0x33800000, one},        // half a step above 1, which is even
		{32, floats.Add, one, 0x33800001, 0x3f800001}, // a little more
		{32, floats.Add, 0x3f800001, 0x33800000, 0x3f800002},
		{32, floats.Add, 0x00800000, 0x80000001, 0x007fffff},
		{64, floats.Add, 0x3ff0000000000000, 0xbc90000000000000, 0x3ff0000000000000}, // half a step below 1, which is even
		{64, floats.Add, 0x3ff0000000000000, 0xbc90000000000001, 0x3fefffffffffffff},
		{64, floats.Add, 0x3ff0000000000000, 0x8000000000000001, 0x3ff0000000000000},
		{32, floats.Mul, minusNought, one, minusNought},
		{32, floats.Mul, minusNought, minusOne, 0},
		{32, floats.Mul, 0, inf, nan},
		{32, floats.Mul, minusInf, minusNought, nan},
		{32, floats.Mul, inf, minusOne, minusInf},
		{32, floats.Mul, 1, 0x3f000000, 0},          // half of the smallest
		{32, floats.Mul, 1, 0xbf000000, 0x80000000}, // and below 0
		{32, floats.Mul, 1, 0x3f000001, 1},
		{32, floats.Mul, 3, 0x3f000000, 2},
		{32, floats.Mul, 0x7f7fffff, 0x40000000, inf},
		{64, floats.Mul, 1, 1, 0},
		{32, floats.Div, 0, 0, nan},
		{32, floats.Div, minusNought, 0, nan},
		{32, floats.Div, inf, minusInf, nan},
		{32, floats.Div, one, minusNought, minusInf},
		{32, floats.Div, inf, 0, inf},
		{32, floats.Div, 0, minusOne, minusNought},
		{32, floats.Div, one, minusInf, minusNought},
		{32, floats.Div, minusInf, minusOne, inf},
		{32, floats.Div, 1, 0x40000000, 0},
		{32, floats.Div, 0x7f7fffff, 1, inf},
		{32, floats.Add, signalling, one, nan},
		{32, floats.Sub, one, minusNaN, nan},
		{32, floats.Mul, minusNaN, signalling, nan},
		{32, floats.Div, minusNaN, inf, nan},
		{32, floats.Min, 0, minusNought, minusNought},
		{32, floats.Min, minusNought, 0, minusNought},
		{32, floats.Max, 0, minusNought, 0},
		{32, floats.Max, minusNought, 0, 0},
		{32, floats.Min, minusOne, one, minusOne},
		{32, floats.Max, minusOne, one, one},
		{32, floats.Min, minusInf, minusNaN, nan},
		{32, floats.Max, signalling, inf, nan},
		{32, floats.Copysign, signalling, minusNought, 0xff800001},
		{32, floats.Copysign, minusNaN, one, 0x7fc12345},
		{32, floats.Copysign, one, minusNaN, minusOne},
		{64, floats.Copysign, 1 << 31, 1 << 63, 1<<63 | 1<<31},
		{32, floats.PMin, minusNaN, one, minusNaN},
		{32, floats.PMin, one, minusNaN, one},
		{32, floats.PMin, 0, minusNought, 0},
		{32, floats.PMin, minusNought, 0, minusNought},
		{32, floats.PMin, one, minusOne, minusOne},
		{32, floats.PMax, signalling, one, signalling},
		{32, floats.PMax, one, signalling, one},
		{32, floats.PMax, minusNought, 0, minusNought},
		{32, floats.PMax, minusOne, one, one},
	} {
		if n, e := floats.Bin(c.bits, c.op, c.a, c.b); n != c.want || e != api.OK {
			t.Error(tell("Bin", c.bits, c.op, c.a, c.b), hex(n), int(e), "not", hex(c.want))
		}
	}
}

func TestBinEdges(t *testing.T) {
	for _, bits := range widths {
		list := edges(bits)
		for op := floats.Add; op <= floats.PMax; op++ {
			for _, a := range list {
				for _, b := range list {
					checkBin(t, bits, op, a, b)
				}
			}
		}
	}
}

func TestBinMany(t *testing.T) {
	s := sequence(1)
	for range 60000 {
		for _, bits := range widths {
			a, b := s.float(bits), s.float(bits)
			near := s.near(bits, a)
			for op := floats.Add; op <= floats.PMax; op++ {
				checkBin(t, bits, op, a, b)
				checkBin(t, bits, op, a, near)
			}
		}
	}
}

// exact is a finite float as a fraction.
func exact(bits int, a uint64) *big.Rat { return new(big.Rat).SetFloat64(value(bits, a)) }

// rounded is the float nearest to a fraction.
func rounded(bits int, x *big.Rat) uint64 {
	if bits == 32 {
		n, _ := x.Float32()
		return uint64(math.Float32bits(n))
	}
	n, _ := x.Float64()
	return math.Float64bits(n)
}

func TestBinExact(t *testing.T) {
	s := sequence(2)
	for range 2000 {
		for _, bits := range widths {
			a := s.float(bits)
			b := s.near(bits, a)
			if !isFinite(bits, a) || b&^sign(bits) == 0 {
				continue
			}
			x, y := exact(bits, a), exact(bits, b)
			for op, z := range map[int]*big.Rat{
				floats.Add: new(big.Rat).Add(x, y), floats.Sub: new(big.Rat).Sub(x, y), floats.Mul: new(big.Rat).Mul(x, y), floats.Div: new(big.Rat).Quo(x, y),
			} {
				n, _ := floats.Bin(bits, op, a, b)
				// A fraction has no sign of a zero.
				if want := rounded(bits, z); n&^sign(bits) != want&^sign(bits) || want&^sign(bits) != 0 && n != want {
					t.Fatal(tell("Bin", bits, op, a, b), hex(n), "not", hex(want))
				}
			}
		}
	}
}

// P3.3: unary operations.

func TestUnExamples(t *testing.T) {
	for _, c := range []struct {
		bits, op int
		a, want  uint64
	}{
		{32, floats.Nearest, 1075838976, 1073741824},
		{32, floats.Abs, 0xff800001, 0x7f800001},
		{32, floats.Neg, 0x7f800001, 0xff800001},
		{32, floats.Neg, 0, 0x80000000},
		{32, floats.Neg, 0x1ffffffff, 0x7fffffff},
		{64, floats.Abs, math.MaxUint64, math.MaxInt64},
		{32, floats.Sqrt, 0, 0},
		{32, floats.Sqrt, 0x80000000, 0x80000000},
		{32, floats.Sqrt, 0x40800000, 0x40000000},
		{32, floats.Sqrt, 0xbf800000, 0x7fc00000},
		{32, floats.Sqrt, 0x80000001, 0x7fc00000},
		{32, floats.Sqrt, 0xff800000, 0x7fc00000},
		{32, floats.Sqrt, 0x7f800000, 0x7f800000},
		{32, floats.Sqrt, 0xff800001, 0x7fc00000},
		{32, floats.Sqrt, 1, 0x1a3504f3},
		{64, floats.Sqrt, 0x4000000000000000, 0x3ff6a09e667f3bcd},
		{64, floats.Sqrt, 0x7fefffffffffffff, 0x5fefffffffffffff},
		{32, floats.Ceil, 0xbf000000, 0x80000000},
		{32, floats.Ceil, 1, 0x3f800000},
		{32, floats.Ceil, 0x80000001, 0x80000000},
		{32, floats.Floor, 0xbf000000, 0xbf800000},
		{32, floats.Floor, 1, 0},
		{32, floats.Floor, 0x80000001, 0xbf800000},
		{32, floats.Trunc, 0xbfc00000, 0xbf800000},
		{32, floats.Trunc, 0xbf7fffff, 0x80000000},
		{32, floats.Nearest, 0x3f000000, 0},
		{32, floats.Nearest, 0xbf000000, 0x80000000},
		{32, floats.Nearest, 0x3f000001, 0x3f800000},
		{32, floats.Nearest, 0x3fc00000, 0x40000000},
		{32, floats.Nearest, 0x3effffff, 0},
		{32, floats.Nearest, 0x4b7fffff, 0x4b7fffff},
		{32, floats.Nearest, 0x4affffff, 0x4b000000}, // a half below 2^23
		{32, floats.Nearest, 0xff800000, 0xff800000},
		{32, floats.Ceil, 0x7f800000, 0x7f800000},
		{32, floats.Floor, 0x80000000, 0x80000000},
		{32, floats.Trunc, 0x7f800001, 0x7fc00000},
		{32, floats.Ceil, 0xffffffff, 0x7fc00000},
		{64, floats.Floor, 0xfff0000000000001, 0x7ff8000000000000},
	} {
		if n, e := floats.Un(c.bits, c.op, c.a); n != c.want || e != api.OK {
			t.Error(tell("Un", c.bits, c.op, c.a), hex(n), int(e), "not", hex(c.want))
		}
	}
}

func TestUnEdges(t *testing.T) {
	for _, bits := range widths {
		for op := floats.Abs; op <= floats.Nearest; op++ {
			for _, a := range edges(bits) {
				checkUn(t, bits, op, a)
			}
		}
	}
}

func TestUnMany(t *testing.T) {
	s := sequence(3)
	for range 60000 {
		for _, bits := range widths {
			a := s.float(bits)
			near := s.near(bits, bitsOf(bits, 1<<20))
			for op := floats.Abs; op <= floats.Nearest; op++ {
				checkUn(t, bits, op, a)
				checkUn(t, bits, op, near)
			}
		}
	}
}

// TestRootExact squares the halves between a root and its neighbours.
func TestRootExact(t *testing.T) {
	s := sequence(4)
	for range 3000 {
		for _, bits := range widths {
			a := s.float(bits) &^ sign(bits)
			if !isFinite(bits, a) || a == 0 {
				continue
			}
			r, _ := floats.Un(bits, floats.Sqrt, a)
			below := new(big.Rat).Add(exact(bits, r), exact(bits, r-1))
			above := new(big.Rat).Add(exact(bits, r), exact(bits, r+1))
			four := new(big.Rat).Mul(exact(bits, a), big.NewRat(4, 1))
			if four.Cmp(below.Mul(below, below)) <= 0 || four.Cmp(above.Mul(above, above)) >= 0 {
				t.Fatal(tell("Un", bits, floats.Sqrt, a), hex(r))
			}
		}
	}
}

// P3.4: comparisons.

func TestRelExamples(t *testing.T) {
	const inf, minusInf, one, minusOne, minusNought, nan = 0x7f800000, 0xff800000, 0x3f800000, 0xbf800000, 0x80000000, 0xff800001
	for _, c := range []struct {
		a, b uint64
		want [6]bool // Eq, Ne, Lt, Gt, Le, Ge
	}{
		{0, minusNought, [6]bool{true, false, false, false, true, true}},
		{minusNought, 0, [6]bool{true, false, false, false, true, true}},
		{minusOne, one, [6]bool{false, true, true, false, true, false}},
		{one, minusOne, [6]bool{false, true, false, true, false, true}},
		{minusOne, 0x80000001, [6]bool{false, true, true, false, true, false}},
		{minusInf, 0xff7fffff, [6]bool{false, true, true, false, true, false}},
		{inf, inf, [6]bool{true, false, false, false, true, true}},
		{nan, nan, [6]bool{false, true, false, false, false, false}},
		{nan, inf, [6]bool{false, true, false, false, false, false}},
		{minusInf, nan, [6]bool{false, true, false, false, false, false}},
	} {
		for i, want := range c.want {
			if is, e := floats.Rel(32, floats.Eq+i, c.a, c.b); is != want || e != api.OK {
				t.Error(tell("Rel", 32, floats.Eq+i, c.a, c.b), is, int(e))
			}
		}
	}
}

func TestRelEdges(t *testing.T) {
	for _, bits := range widths {
		list := edges(bits)
		for op := floats.Eq; op <= floats.Ge; op++ {
			for _, a := range list {
				for _, b := range list {
					checkRel(t, bits, op, a, b)
				}
			}
		}
	}
}

func TestRelMany(t *testing.T) {
	s := sequence(5)
	for range 60000 {
		for _, bits := range widths {
			a, b := s.float(bits), s.float(bits)
			near := s.near(bits, a)
			for op := floats.Eq; op <= floats.Ge; op++ {
				checkRel(t, bits, op, a, b)
				checkRel(t, bits, op, a, near)
				checkRel(t, bits, op, a, a)
			}
		}
	}
}

// P3.5: rounding and decomposition.

// tellRound names a call of Round.
func tellRound(bits int, m uint64, e int, more bool) string {
	out := "Round " + strconv.Itoa(bits) + " of " + hex(m) + ", " + strconv.Itoa(e)
	if more {
		out += " and more"
	}
	return out + ":"
}

// checkRound asks for a float of both signs.
func checkRound(t *testing.T, bits int, m uint64, e int, more bool, want uint64) {
	t.Helper()
	if n, err := floats.Round(bits, false, m, e, more); n != want || err != api.OK {
		t.Error(tellRound(bits, m, e, more), hex(n), int(err), "not", hex(want))
	}
	if n, err := floats.Round(bits, true, m, e, more); n != want|sign(bits) || err != api.OK {
		t.Error(tellRound(bits, m, e, more), "below 0", hex(n), int(err), "not", hex(want|sign(bits)))
	}
}

func TestRoundExamples(t *testing.T) {
	const inf, wideInf = 0x7f800000, 0x7ff0000000000000
	for _, c := range []struct {
		bits int
		m    uint64
		e    int
		more bool
		want uint64
	}{
		{32, 1, 0, false, 0x3f800000},
		{64, 1, 0, false, 0x3ff0000000000000},
		{32, 16777217, 0, false, 0x4b800000},
		{32, 16777219, 0, false, 0x4b800002},
		{32, math.MaxUint64, 0, false, 0x5f800000},
		{32, 0, 0, false, 0}, {32, 0, math.MaxInt, false, 0}, {64, 0, math.MinInt, false, 0},
		// The smallest float, and what lies around its half.
		{32, 1, -149, false, 1}, {32, 1, -150, false, 0}, {32, 3, -151, false, 1}, {32, 3, -150, false, 2}, {32, 1, -151, false, 0}, {32, 5, -150, false, 2},
		{32, 1 << 63, -149 - 64, false, 0}, {32, 1<<63 + 1, -149 - 64, false, 1}, {32, 1 << 63, -149 - 64, true, 1}, {32, 1<<63 - 1, -149 - 64, true, 0},
		{32, math.MaxUint64, -149 - 65, true, 0}, {32, 1 << 58, -149 - 59, true, 1}, {32, 1<<59 - 1, -149 - 60, true, 0},
		{64, 1, -1074, false, 1}, {64, 1, -1075, false, 0}, {64, 3, -1076, false, 1}, {64, 3, -1075, false, 2},
		{64, 1 << 63, -1074 - 64, true, 1}, {64, math.MaxUint64, -1074 - 65, true, 0}, {64, 1 << 63, -1074 - 63, false, 1},
		// The step from the floats without the highest bit to those with it.
		{32, 1<<24 - 1, -150, false, 0x00800000}, {32, 1<<25 - 3, -151, false, 0x007fffff},
		{64, 1<<53 - 1, -1075, false, 0x0010000000000000},
		// The largest float, and what lies around the half behind it.
		{32, 1<<24 - 1, 104, false, inf - 1}, {32, 1<<25 - 1, 103, false, inf}, {32, 1<<26 - 3, 102, false, inf - 1}, {32, 1, 128, false, inf}, {32, 1, 127, false, 0x7f000000},
		{32, 1<<63 - 1<<38 - 1, 65, true, inf - 1}, {32, 1<<63 - 1<<38, 65, false, inf},
		{64, 1<<53 - 1, 971, false, wideInf - 1}, {64, 1<<54 - 1, 970, false, wideInf}, {64, 1<<55 - 3, 969, false, wideInf - 1}, {64, 1, 1023, false, 0x7fe0000000000000}, {64, 1, 1024, false, wideInf},
		// Powers that are far away.
		{32, 1, math.MaxInt, false, inf}, {64, 1, math.MaxInt, false, wideInf}, {64, math.MaxUint64, math.MaxInt, true, wideInf}, {64, 1, 5000, false, wideInf}, {64, 1, 1 << 20, false, wideInf},
		{32, math.MaxUint64, math.MinInt, true, 0}, {64, math.MaxUint64, math.MinInt, false, 0}, {64, 1, -5000, false, 0}, {64, 1 << 58, -1 << 20, true, 0},
		// More decides where it is even otherwise, and nowhere else.
		{32, 1<<58 + 1<<34, -58, false, 0x3f800000}, {32, 1<<58 + 1<<34, -58, true, 0x3f800001}, {32, 1<<58 + 1<<34 - 1, -58, true, 0x3f800000}, {32, 1<<58 + 1<<35, -58, true, 0x3f800001},
		{64, 1<<58 + 1<<5, -58, false, 0x3ff0000000000000}, {64, 1<<58 + 1<<5, -58, true, 0x3ff0000000000001}, {64, 1<<58 + 1<<5 - 1, -58, true, 0x3ff0000000000000}, {64, 1 << 58, -58, true, 0x3ff0000000000000},
		{64, 1<<58 + 3<<5, -58, false, 0x3ff0000000000002}, {64, 1<<59 - 1, -58, true, 0x4000000000000000},
	} {
		checkRound(t, c.bits, c.m, c.e, c.more, c.want)
	}
}

func TestRoundRefusesMore(t *testing.T) {
	for _, bits := range widths {
		for _, neg := range []bool{false, true} {
			for _, m := range []uint64{0, 1, 1<<53 - 1, 1 << 57, 1<<58 - 1} {
				for _, e := range []int{0, -5000, 5000, math.MinInt, math.MaxInt} {
					if n, err := floats.Round(bits, neg, m, e, true); n != 0 || err != api.ErrArg {
						t.Error(tellRound(bits, m, e, true), hex(n), int(err))
					}
					if _, err := floats.Round(bits, neg, m, e, false); err != api.OK {
						t.Error(tellRound(bits, m, e, false), int(err))
					}
				}
			}
		}
	}
}

// times is a number times 2 to a power, as a fraction.
func times(m *big.Int, e int) *big.Rat {
	x := new(big.Rat).SetInt(m)
	power := new(big.Rat).SetInt(new(big.Int).Lsh(big.NewInt(1), uint(max(e, -e))))
	if e < 0 {
		return x.Quo(x, power)
	}
	return x.Mul(x, power)
}

func TestRoundExact(t *testing.T) {
	s := sequence(6)
	for range 4000 {
		for _, bits := range widths {
			m := s.next() >> (s.next() % 64) << (s.next() % 64)
			top := lowest(bits) - 70 + int(s.next()%uint64(-2*lowest(bits)+40))
			e := top - int(s.next()%64)
			checkRound(t, bits, m, e, false, rounded(bits, times(new(big.Int).SetUint64(m), e)))
			if m < 1<<58 {
				continue
			}
			// A little more, and nearly one more.
			const steps = 40
			long := new(big.Int).Lsh(new(big.Int).SetUint64(m), steps)
			for _, more := range []int64{1, 1<<steps - 1} {
				checkRound(t, bits, m, e, true, rounded(bits, times(new(big.Int).Add(long, big.NewInt(more)), e-steps)))
			}
			if t.Failed() {
				return
			}
		}
	}
}

// TestRoundHalves asks for numbers next to the halves between two floats.
func TestRoundHalves(t *testing.T) {
	s := sequence(7)
	for range 4000 {
		for _, bits := range widths {
			a := s.next() % infinity(bits)
			_, m, e, _ := floats.Parts(bits, a)
			room := 63 - fractionBits(bits)
			half := m<<room + 1<<(room-1)
			even := a + a&1
			checkRound(t, bits, half, e-room, false, even)
			checkRound(t, bits, half-1, e-room, false, a)
			checkRound(t, bits, half+1, e-room, false, a+1)
			if half > 1<<58 {
				checkRound(t, bits, half, e-room, true, a+1)
				checkRound(t, bits, half-1, e-room, true, a)
			}
			if t.Failed() {
				return
			}
		}
	}
}

func TestPartsExamples(t *testing.T) {
	for _, c := range []struct {
		bits int
		a    uint64
		neg  bool
		m    uint64
		e    int
	}{
		{32, 0, false, 0, -149}, {32, 0x80000000, true, 0, -149}, {32, 1 << 32, false, 0, -149},
		{32, 1, false, 1, -149}, {32, 0x007fffff, false, 0x7fffff, -149}, {32, 0x00800000, false, 0x800000, -149}, {32, 0x01000000, false, 0x800000, -148},
		{32, 0x3f800000, false, 0x800000, -23}, {32, 0xbfc00000, true, 0xc00000, -23}, {32, 0x7f7fffff, false, 0xffffff, 104}, {32, 0x1ff7fffff, true, 0xffffff, 104},
		{64, 0, false, 0, -1074}, {64, 1 << 63, true, 0, -1074}, {64, 1, false, 1, -1074}, {64, 1 << 52, false, 1 << 52, -1074}, {64, 1 << 53, false, 1 << 52, -1073},
		{64, 0x3ff0000000000000, false, 1 << 52, -52}, {64, 0xffefffffffffffff, true, 1<<53 - 1, 971},
	} {
		if neg, m, e, err := floats.Parts(c.bits, c.a); neg != c.neg || m != c.m || e != c.e || err != api.OK {
			t.Error("Parts", c.bits, "of", hex(c.a), "are", neg, hex(m), e, int(err))
		}
	}
}

func TestPartsOfNoNumbers(t *testing.T) {
	for _, bits := range widths {
		for _, a := range edges(bits) {
			if isFinite(bits, a) {
				continue
			}
			if neg, m, e, err := floats.Parts(bits, withGarbage(bits, a)); neg || m != 0 || e != 0 || err != api.ErrArg {
				t.Error("Parts", bits, "of", hex(a), "are", neg, m, e, int(err))
			}
		}
	}
}

func TestPartsExact(t *testing.T) {
	s := sequence(8)
	for _, bits := range widths {
		list := edges(bits)
		for range 3000 {
			list = append(list, s.float(bits))
		}
		for _, a := range list {
			if !isFinite(bits, a) {
				continue
			}
			neg, m, e, err := floats.Parts(bits, withGarbage(bits, a))
			x := times(new(big.Int).SetUint64(m), e)
			if neg {
				x.Neg(x)
			}
			one := uint64(1) << fractionBits(bits)
			if err != api.OK || neg != (a&sign(bits) != 0) || x.Cmp(exact(bits, a)) != 0 || e < lowest(bits) || m >= 2*one || m < one && e != lowest(bits) {
				t.Fatal("Parts", bits, "of", hex(a), "are", neg, hex(m), e, int(err))
			}
		}
	}
}

// P3.6: what follows.

func TestFollows(t *testing.T) {
	s := sequence(9)
	for _, bits := range widths {
		list := edges(bits)
		for range 20000 {
			list = append(list, s.float(bits))
		}
		for i, a := range list {
			b := list[(i*7919+13)%len(list)]
			for _, op := range []int{floats.Add, floats.Mul} {
				one, _ := floats.Bin(bits, op, a, b)
				other, _ := floats.Bin(bits, op, b, a)
				if one != other {
					t.Fatal(tell("Bin", bits, op, a, b), hex(one), "and the other way round", hex(other))
				}
			}
			back, _ := floats.Un(bits, floats.Neg, a)
			back, _ = floats.Un(bits, floats.Neg, back)
			if back != a {
				t.Fatal(tell("Un", bits, floats.Neg, a), "twice", hex(back))
			}
			if !isFinite(bits, a) {
				continue
			}
			if is, e := floats.Rel(bits, floats.Lt, a, infinity(bits)|sign(bits)); is || e != api.OK {
				t.Fatal(tell("Rel", bits, floats.Lt, a), "less than the negative infinity", int(e))
			}
			neg, m, e, _ := floats.Parts(bits, a)
			if n, err := floats.Round(bits, neg, m, e, false); n != a || err != api.OK {
				t.Fatal(tellRound(bits, m, e, false), hex(n), int(err), "not", hex(a))
			}
		}
	}
}

// TestNaNsAreCanonical holds what computes against what only moves bits.
func TestNaNsAreCanonical(t *testing.T) {
	for _, bits := range widths {
		for _, nan := range edges(bits) {
			if !isNaN(bits, nan) {
				continue
			}
			for _, b := range edges(bits) {
				for op := floats.Add; op <= floats.Max; op++ {
					one, _ := floats.Bin(bits, op, nan, b)
					other, _ := floats.Bin(bits, op, b, nan)
					if one != canonical(bits) || other != canonical(bits) {
						t.Fatal(tell("Bin", bits, op, nan, b), hex(one), hex(other))
					}
				}
			}
			for op := floats.Sqrt; op <= floats.Nearest; op++ {
				if n, _ := floats.Un(bits, op, nan); n != canonical(bits) {
					t.Fatal(tell("Un", bits, op, nan), hex(n))
				}
			}
		}
	}
}
