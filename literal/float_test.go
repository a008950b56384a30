package literal_test

import (
	"math"
	"math/big"
	"strconv"
	"strings"
	"testing"
)

// P8.2: Float.

func TestFloatByHand(t *testing.T) {
	for _, c := range []struct {
		bits int
		text string
		want uint64
		ok   bool
	}{
		{32, "0x1.8p1", 1077936128, true}, {32, "1e39", 0, false}, {32, "nan:0x1", 2139095041, true},
		{32, "inf", 0x7f800000, true}, {32, "+inf", 0x7f800000, true}, {32, "-inf", 0xff800000, true}, {64, "inf", 0x7ff0000000000000, true}, {64, "-inf", 0xfff0000000000000, true},
		{32, "nan", 0x7fc00000, true}, {32, "+nan", 0x7fc00000, true}, {32, "-nan", 0xffc00000, true}, {64, "nan", 0x7ff8000000000000, true}, {64, "-nan", 0xfff8000000000000, true},
		{32, "nan:0x0", 0, false}, {32, "nan:0x7fffff", 0x7fffffff, true}, {32, "nan:0x800000", 0, false}, {32, "-nan:0x40_0000", 0xffc00000, true}, {32, "nan:0x0000000000000000000000001", 0x7f800001, true}, {32, "nan:0xffffffffffffffff", 0, false}, {32, "nan:0x10000000000000001", 0, false},
		{64, "nan:0x0", 0, false}, {64, "nan:0xfffffffffffff", 0x7fffffffffffffff, true}, {64, "nan:0x10000000000000", 0, false}, {64, "-nan:0x1", 0xfff0000000000001, true}, {64, "nan:0x10000000000000001", 0, false},
		{32, "nan:", 0, false}, {32, "nan:0x", 0, false}, {32, "nan:1", 0, false}, {32, "nan:0x_1", 0, false}, {32, "nan:0x1_", 0, false}, {32, "nan:0xg", 0, false}, {32, "nan:-0x1", 0, false}, {32, "nan:0X1", 0, false}, {32, "nan:canonical", 0, false}, {32, "nan:arithmetic", 0, false}, {32, "nan0x1", 0, false},
		{32, "NaN", 0, false}, {32, "Inf", 0, false}, {32, "INF", 0, false}, {32, "infinity", 0, false}, {32, "nan ", 0, false}, {32, "i", 0, false}, {32, "in", 0, false}, {32, "infx", 0, false},
		{32, "0", 0, true}, {32, "-0", 0x80000000, true}, {64, "-0.0", 1 << 63, true}, {32, "-0x0", 0x80000000, true}, {32, "+0e0", 0, true}, {32, "-0x.0", 0, false},
		{32, "1", 0x3f800000, true}, {32, "1.", 0x3f800000, true}, {32, "1.0", 0x3f800000, true}, {32, "-1.5", 0xbfc00000, true}, {32, "1e0", 0x3f800000, true}, {32, "1E+0", 0x3f800000, true}, {32, "1.e-0", 0x3f800000, true}, {32, "100e-2", 0x3f800000, true}, {32, "0.01e2", 0x3f800000, true}, {32, "010", 0x41200000, true}, {32, "1e0_1", 0x41200000, true}, {32, "1_0.5_0e0", 0x41280000, true},
		{32, "0x1", 0x3f800000, true}, {32, "0x1.", 0x3f800000, true}, {32, "0xA.8", 0x41280000, true}, {32, "0x1p+1", 0x40000000, true}, {32, "0x1P-1", 0x3f000000, true}, {32, "0x1.p1_0", 0x44800000, true}, {32, "0x1e1", 0x43f08000, true}, {32, "0xe", 0x41600000, true}, {32, "0x.8", 0, false}, {32, "0x1p", 0, false}, {32, "0x1p+", 0, false}, {32, "0x1p0xa", 0, false}, {32, "0x1pa", 0, false}, {32, "0x1e+1", 0, false}, {32, "0x", 0, false}, {32, "0xp1", 0, false}, {32, "0X1", 0, false},
		{32, "", 0, false}, {32, "+", 0, false}, {32, "-", 0, false}, {32, ".", 0, false}, {32, ".5", 0, false}, {32, "-.5", 0, false}, {32, "e1", 0, false}, {32, "1e", 0, false}, {32, "1e+", 0, false}, {32, "1e+-1", 0, false}, {32, "1p1", 0, false}, {32, "1e1.", 0, false}, {32, "1e1e1", 0, false}, {32, "1..", 0, false}, {32, "1.1.1", 0, false}, {32, "+-1", 0, false}, {32, "a", 0, false}, {32, "1f", 0, false},
		{32, "_1", 0, false}, {32, "1_", 0, false}, {32, "1_.", 0, false}, {32, "1._", 0, false}, {32, "1._5", 0, false}, {32, "1.5_", 0, false}, {32, "1__5", 0, false}, {32, "1_e1", 0, false}, {32, "1.5_e1", 0, false}, {32, "1e_1", 0, false}, {32, "1e1_", 0, false}, {32, "1e+_1", 0, false}, {32, "0x_1", 0, false}, {32, "0_x1", 0, false}, {32, "0x1_p1", 0, false}, {32, "0x1p1_", 0, false},
		{32, "\u0661", 0, false}, {32, "1.\uff11", 0, false}, {32, "1e\u0661", 0, false}, {32, "1\xff", 0, false}, {32, " 1", 0, false}, {32, "1 ", 0, false},
		{64, "3.141592653589793", 0x400921fb54442d18, true}, {64, "1e23", 0x44b52d02c7e14af6, true}, {64, "9007199254740993", 0x4340000000000000, true}, {64, "9007199254740993.0000000000000000000000000000001", 0x4340000000000001, true}, {64, "2.2250738585072011e-308", 0x000fffffffffffff, true}, {32, "16777217", 0x4b800000, true}, {32, "16777219", 0x4b800002, true},
	} {
		checkFloat(t, c.bits, c.text, c.want, c.ok)
	}
}

// The greatest floats and the least ones: halfway beyond them lie the infinity and 0.
func TestFloatAtBounds(t *testing.T) {
	for _, c := range []struct {
		bits int
		text string
		want uint64
		ok   bool
	}{
		{32, "340282346638528859811704183484516925440", 0x7f7fffff, true}, {32, "340282356779733661637539395458142568447", 0x7f7fffff, true}, {32, "340282356779733661637539395458142568447.999", 0x7f7fffff, true}, {32, "340282356779733661637539395458142568448", 0, false}, {32, "3.4028235e38", 0x7f7fffff, true}, {32, "3.4028236e38", 0, false},
		{32, "0x1.fffffep127", 0x7f7fffff, true}, {32, "0x1.fffffeffffffffffffffffffffffffffp127", 0x7f7fffff, true}, {32, "0x1.ffffffp127", 0, false}, {32, "0x1p128", 0, false}, {32, "-0x1p128", 0, false}, {32, "0x1p127", 0x7f000000, true},
		{64, "1.7976931348623157e308", 0x7fefffffffffffff, true}, {64, "1.7976931348623158e308", 0x7fefffffffffffff, true}, {64, "1.7976931348623159e308", 0, false}, {64, "0x1.fffffffffffff7ffffffffffffffffffffp1023", 0x7fefffffffffffff, true}, {64, "0x1.fffffffffffff8p1023", 0, false}, {64, "-0x1p1024", 0, false}, {64, "1e308", 0x7fe1ccf385ebc8a0, true}, {64, "1e309", 0, false},
		{32, "0x1p-149", 1, true}, {32, "0x1p-150", 0, true}, {32, "0x1.00000000000000000000000000000001p-150", 1, true}, {32, "-0x1p-150", 0x80000000, true}, {32, "0x3p-150", 2, true}, {32, "1e-45", 1, true}, {32, "7e-46", 0, true}, {32, "8e-46", 1, true},
		{64, "0x1p-1074", 1, true}, {64, "0x1p-1075", 0, true}, {64, "0x1.0000000000000000000000001p-1075", 1, true}, {64, "-0x1p-1075", 1 << 63, true}, {64, "5e-324", 1, true}, {64, "3e-324", 1, true}, {64, "2e-324", 0, true}, {64, "-2e-324", 1 << 63, true}, {64, "1e-323", 2, true},
	} {
		checkFloat(t, c.bits, c.text, c.want, c.ok)
	}
}

// Exponents of any length, with digits that make up for them and without.
func TestFloatFarExponents(t *testing.T) {
	nines := strings.Repeat("9", 1000)
	for _, bits := range floatWidths {
		one := uint64(0x3f800000)
		if bits == 64 {
			one = 0x3ff0000000000000
		}
		for _, far := range []string{"400", "1200", "5000", "65536", "2147483648", "4294967296", "9223372036854775807", "9223372036854775808", "18446744073709551615", "18446744073709551616", "18446744073709551617", nines} {
			for _, mark := range []string{"1e", "1.e", "0.01e", "1200.5E+", "0x1p1", "0x0.01p1", "0xffP+1"} {
				checkFloat(t, bits, mark+far, 0, false)
			}
			for _, mark := range []string{"1e-", "100.001E-", "0x1p-1", "0xffffff.fP-1"} {
				checkFloat(t, bits, mark+far, 0, true)
				checkFloat(t, bits, "-"+mark+far, signBit(bits), true)
			}
			for _, mark := range []string{"0e", "0.00e", "0x0p", "0x00.0p+", "0e-", "0x0p-"} {
				checkFloat(t, bits, mark+far, 0, true)
				checkFloat(t, bits, "-"+mark+far, signBit(bits), true)
			}
			checkFloat(t, bits, "0e"+far+"x", 0, false)
			checkFloat(t, bits, "0e"+far+"_", 0, false)
		}
		for _, k := range []int{0, 1, 5, 100, 799, 800, 801, 802, 1199, 1201, 5000, 1 << 20} {
			zeros := strings.Repeat("0", k)
			checkFloat(t, bits, "1"+zeros+"e-"+strconv.Itoa(k), one, true)
			checkFloat(t, bits, "0."+zeros+"1e"+strconv.Itoa(k+1), one, true)
			checkFloat(t, bits, "0x1"+zeros+"p-"+strconv.Itoa(4*k), one, true)
			checkFloat(t, bits, "0x0."+zeros+"1p"+strconv.Itoa(4*k+4), one, true)
			checkFloat(t, bits, zeros+"1."+zeros+"e0"+zeros, one, true)
			checkFloat(t, bits, "1"+zeros+"."+zeros+"e-"+strconv.Itoa(k), one, true)
			checkFloat(t, bits, "0."+zeros+"e"+strconv.Itoa(k), 0, true)
			checkFloat(t, bits, "0"+zeros+"e"+strconv.Itoa(k), 0, true)
		}
		checkFloat(t, bits, strings.Repeat("9", 1<<20), 0, false)
		checkFloat(t, bits, strings.Repeat("9", 1<<20)+"e-1048576", one, true)
		checkFloat(t, bits, "0."+strings.Repeat("9", 1<<20), one, true)
		checkFloat(t, bits, "1."+strings.Repeat("0", 1<<20)+"1", one, true)
	}
}

func TestFloatEveryShortText(t *testing.T) {
	everyText("+-_.0x1eEpP", 5, func(text string) { holdFloat(t, text) })
}

func TestFloatEveryChange(t *testing.T) {
	for _, text := range []string{"inf", "-nan", "nan:0x1F", "+12.5", "1_0.2_5e-1_0", "3E+8", "7.e4", "0x1.8p1", "-0xA_b.c_dP-1_1", "0xffp-2", "+0x5."} {
		everyChange(text, func(text string) {
			// A long exponent takes the model too long.
			if i := strings.LastIndexAny(text, "eEpP"); i < 0 || len(text)-i < 8 {
				holdFloat(t, text)
			}
		})
	}
}

func TestFloatOtherWidths(t *testing.T) {
	for _, bits := range append([]int{8, 16}, noWidths...) {
		for _, text := range []string{"0", "1", "-1.5", "0x1p1", "inf", "nan", "nan:0x1", "", "x"} {
			checkFloat(t, bits, text, 0, false)
		}
	}
}

// point is digits and an exponent, with a point behind so many of the digits, or zeros where there are none.
func point(digits string, exponent, place int, mark string) string {
	step := 1
	if mark == "p" {
		step = 4
	}
	exponent += step * (len(digits) - place)
	if place <= 0 {
		digits = strings.Repeat("0", 1-place) + digits
		place = 1
	}
	if place > len(digits) {
		digits += strings.Repeat("0", place-len(digits))
	}
	return digits[:place] + "." + digits[place:] + mark + strconv.Itoa(exponent)
}

// written are texts of a number of digits times a power: without a point, and with one at some places.
func written(n *big.Int, exponent int, mark string) []string {
	front, digits := "", n.Text(10)
	if mark == "p" {
		front, digits = "0x", n.Text(16)
	}
	out := []string{front + digits + mark + strconv.Itoa(exponent), front + "000" + digits + "." + mark + strconv.Itoa(exponent)}
	for _, place := range []int{1, len(digits), len(digits) / 2, 0, -30, len(digits) + 30} {
		out = append(out, front+point(digits, exponent, place, mark))
	}
	return out
}

// near are texts of a number a little above another one, by so many places, or a little below it.
func near(n *big.Int, exponent, places int, mark string, by int64) []string {
	base, step := int64(10), 1
	if mark == "p" {
		base, step = 16, 4
	}
	longer := new(big.Int).Exp(big.NewInt(base), big.NewInt(int64(places)), nil)
	longer.Mul(longer, n)
	return written(longer.Add(longer, big.NewInt(by)), exponent-step*places, mark)
}

// decimal is m times 2 to the power of e as a number times a power of 10.
func decimal(m *big.Int, e int) (*big.Int, int) {
	if e >= 0 {
		return new(big.Int).Lsh(m, uint(e)), 0
	}
	fives := new(big.Int).Exp(big.NewInt(5), big.NewInt(int64(-e)), nil)
	return fives.Mul(fives, m), e
}

func checkAll(t *testing.T, bits int, texts []string, want uint64) {
	t.Helper()
	ok := want != infinity(bits)
	if !ok {
		want = 0
	}
	for _, text := range texts {
		checkFloat(t, bits, text, want, ok)
		if ok {
			checkFloat(t, bits, "-"+text, want|signBit(bits), true)
		}
	}
}

// checkBetween tries a float, what lies halfway to the next one, and what lies a little beside that.
func checkBetween(t *testing.T, bits int, a uint64, all []int) {
	t.Helper()
	m, e := split(bits, a)
	half := new(big.Int).Lsh(m, 1)
	half.Add(half, big.NewInt(1))
	for _, mark := range []string{"e", "p"} {
		whole, w, between, b := m, e, half, e-1
		if mark == "e" {
			whole, w = decimal(m, e)
			between, b = decimal(half, e-1)
		}
		checkAll(t, bits, written(whole, w, mark), a)
		checkAll(t, bits, written(between, b, mark), a+a%2)
		for _, places := range all {
			checkAll(t, bits, near(between, b, places, mark, 1), a+1)
			checkAll(t, bits, near(between, b, places, mark, -1), a)
		}
	}
}

func TestFloatHalfway(t *testing.T) {
	for _, bits := range floatWidths {
		p, inf := fractionBits(bits), infinity(bits)
		one := uint64(1) << p
		s := sequence(82)
		list := []uint64{0, 1, 2, 3, one / 2, one - 2, one - 1, one, one + 1, 2*one - 1, 2 * one, inf - one - 1, inf - one, inf - 2, inf - 1, inf / 2, inf/2 + one/2}
		for range 40 {
			list = append(list, s.next()%inf)
		}
		for i, a := range list {
			all := []int{1, 20}
			if i < 20 {
				all = []int{1, 20, 60, 850, 2000} // some of them go beyond the digits that are kept
			}
			checkBetween(t, bits, a, all)
		}
	}
}

// Numbers without a pattern, of few digits and of many.
func TestFloatByModel(t *testing.T) {
	s := sequence(84)
	digits := func(most, base uint64) string {
		out := ""
		for range s.next()%most + 1 {
			out += strconv.FormatUint(s.next()%base, int(base))
		}
		return out
	}
	for i := range 6000 {
		most := uint64(30)
		if i%100 == 0 {
			most = 1500
		}
		e := int(s.next()%700) - 350
		if i%2 == 0 {
			e /= 7
		}
		holdFloat(t, digits(most, 10)+"."+digits(most, 10)+"e"+strconv.Itoa(e))
		holdFloat(t, "-"+digits(most, 10)+"e"+strconv.Itoa(e-int(most)))
		holdFloat(t, "0x"+digits(most, 16)+"."+digits(most, 16)+"p"+strconv.Itoa(3*e))
		holdFloat(t, digits(most, 10))
	}
}

// The machine's own texts of floats, which are the shortest that are read back.
func TestFloatShortest(t *testing.T) {
	for _, bits := range floatWidths {
		for _, a := range floatsOf(bits) {
			if a >= infinity(bits) {
				continue
			}
			x := math.Float64frombits(a)
			if bits == 32 {
				x = float64(math.Float32frombits(uint32(a)))
			}
			for _, form := range []byte{'e', 'E', 'f', 'x'} {
				checkFloat(t, bits, strconv.FormatFloat(x, form, -1, bits), a, true)
			}
		}
	}
}
