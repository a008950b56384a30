package literal_test

import (
	"math"
	"slices"
	"strconv"
	"strings"
	"testing"

	"bodkin/literal"
)

var (
	integerWidths = []int{8, 16, 32, 64}
	floatWidths   = []int{32, 64}
	noWidths      = []int{0, 1, 2, 7, 9, 15, 17, 24, 31, 33, 63, 65, 80, 128, 256, -1, -8, -32, -64, 32 + 1<<32, 64 + 1<<32, math.MaxInt, math.MinInt}
)

// garbage lies above the bits of every width but 64.
const garbage = 0xfeedface_a5c3d781

func aboveWidth(bits int, v uint64) uint64 {
	if bits == 64 {
		return v
	}
	return v | garbage<<bits
}

// sequence is numbers without a pattern, the same ones each time.
type sequence uint64

func (s *sequence) next() uint64 {
	*s += 0x9e3779b97f4a7c15
	z := uint64(*s)
	z = (z ^ z>>30) * 0xbf58476d1ce4e5b9
	z = (z ^ z>>27) * 0x94d049bb133111eb
	return z ^ z>>31
}

func hex(n uint64) string { return strconv.FormatUint(n, 16) }

// short is a text, or how it begins and ends.
func short(text string) string {
	if len(text) > 200 {
		return strconv.Quote(text[:100]) + " .. " + strconv.Quote(text[len(text)-50:]) + " of " + strconv.Itoa(len(text))
	}
	return strconv.Quote(text)
}

func checkInt(t *testing.T, bits int, text string, want uint64, ok bool) {
	t.Helper()
	if got, is := literal.Int(bits, text); got != want || is != ok {
		t.Error("Int", bits, short(text), "is", hex(got), is, "not", hex(want), ok)
	}
}

func checkFloat(t *testing.T, bits int, text string, want uint64, ok bool) {
	t.Helper()
	if got, is := literal.Float(bits, text); got != want || is != ok {
		t.Error("Float", bits, short(text), "is", hex(got), is, "not", hex(want), ok)
	}
}

// holdInt holds Int against the model, for all widths.
func holdInt(t *testing.T, text string) {
	t.Helper()
	for _, bits := range integerWidths {
		want, ok := modelInt(bits, text)
		checkInt(t, bits, text, want, ok)
	}
}

// holdFloat holds Float against the model, for both widths.
func holdFloat(t *testing.T, text string) {
	t.Helper()
	for _, bits := range floatWidths {
		want, ok := modelFloat(bits, text)
		checkFloat(t, bits, text, want, ok)
	}
}

// everyText calls for all texts of at most so many of some characters.
func everyText(characters string, most int, call func(string)) {
	texts := []string{""}
	for range most + 1 {
		var longer []string
		for _, text := range texts {
			call(text)
			for _, c := range characters {
				longer = append(longer, text+string(c))
			}
		}
		texts = longer
	}
}

// strange are characters of texts, right and wrong ones: signs, digits, marks, letters near them, digits of other writings, and bytes that are no UTF-8.
var strange = []string{"+", "-", "_", ".", ":", "0", "1", "7", "9", "a", "f", "A", "F", "e", "E", "p", "P", "x", "X", "g", "G", "n", "i", "N", "I", "/", "@", "`", "[", "(", "$", "\"", " ", "\t", "\n", "\x00", "\x7f", "\x80", "\xff", "\u00b2", "\u0663", "\uff11", "\uff41", "\u2212", "\ufffd", "\U0001d7cf"}

// everyChange calls for a text and all that differ from it in one character, in one that is left out, or in one that is put in.
func everyChange(text string, call func(string)) {
	call(text)
	for i := range len(text) + 1 {
		for _, c := range strange {
			call(text[:i] + c + text[i:])
		}
		if i == len(text) {
			break
		}
		call(text[:i] + text[i+1:])
		for _, c := range strange {
			call(text[:i] + c + text[i+1:])
		}
	}
}

// P8.1: Int.

func TestIntByHand(t *testing.T) {
	for _, c := range []struct {
		bits int
		text string
		want uint64
		ok   bool
	}{
		{8, "-128", 128, true}, {8, "0xff", 255, true}, {8, "256", 0, false}, {8, "-129", 0, false}, {8, "+255", 255, true}, {8, "-0x80", 0x80, true}, {8, "-0x81", 0, false}, {8, "0x100", 0, false},
		{16, "65535", 0xffff, true}, {16, "65536", 0, false}, {16, "-32768", 0x8000, true}, {16, "-32769", 0, false}, {16, "-1", 0xffff, true},
		{32, "4294967295", 0xffffffff, true}, {32, "4294967296", 0, false}, {32, "-2147483648", 0x80000000, true}, {32, "-2147483649", 0, false}, {32, "-7", 0xfffffff9, true},
		{64, "18446744073709551615", math.MaxUint64, true}, {64, "18446744073709551616", 0, false}, {64, "18446744073709551619", 0, false}, {64, "18446744073709551620", 0, false}, {64, "184467440737095516150", 0, false},
		{64, "-9223372036854775808", 1 << 63, true}, {64, "-9223372036854775809", 0, false}, {64, "-18446744073709551615", 0, false}, {64, "0xffffffffffffffff", math.MaxUint64, true}, {64, "0x10000000000000000", 0, false}, {64, "-0x8000000000000000", 1 << 63, true}, {64, "-0x8000000000000001", 0, false},
		{32, "0", 0, true}, {32, "+0", 0, true}, {32, "-0", 0, true}, {32, "-0x0", 0, true}, {32, "00012", 12, true}, {32, "0x000c", 12, true}, {32, "0xaBcDeF", 0xabcdef, true},
		{32, "1_000_000", 1000000, true}, {32, "0x1_2_3", 0x123, true}, {32, "0_1", 1, true}, {32, "-0x0_f", 0xfffffff1, true},
		{32, "", 0, false}, {32, "+", 0, false}, {32, "-", 0, false}, {32, "_", 0, false}, {32, "0x", 0, false}, {32, "-0x", 0, false}, {32, "x1", 0, false}, {32, "0X1", 0, false}, {32, "0b1", 0, false}, {32, "0o7", 0, false},
		{32, "_1", 0, false}, {32, "1_", 0, false}, {32, "1__0", 0, false}, {32, "0x_1", 0, false}, {32, "0_x1", 0, false}, {32, "0x1_", 0, false}, {32, "0x1__2", 0, false}, {32, "+_1", 0, false},
		{32, "+-1", 0, false}, {32, "--1", 0, false}, {32, "++1", 0, false}, {32, "1+", 0, false}, {32, "0x-1", 0, false}, {32, " 1", 0, false}, {32, "1 ", 0, false}, {32, "+ 1", 0, false},
		{32, "a", 0, false}, {32, "1a", 0, false}, {32, "0xg", 0, false}, {32, "1.", 0, false}, {32, "1.0", 0, false}, {32, "1e3", 0, false}, {32, "0x1p3", 0, false}, {32, "inf", 0, false}, {32, "nan", 0, false},
		{32, "\u0661", 0, false}, {32, "\uff11", 0, false}, {32, "1\xff", 0, false}, {32, "1\x00", 0, false},
	} {
		checkInt(t, c.bits, c.text, c.want, c.ok)
	}
}

// All numbers around the bounds of all widths, decimal and hexadecimal, with all signs.
func TestIntAtBounds(t *testing.T) {
	for _, k := range []int{0, 7, 8, 15, 16, 31, 32, 63} {
		for d := range uint64(7) {
			n := uint64(1)<<k + d - 3
			for _, sign := range []string{"", "+", "-"} {
				decimal, hexadecimal := strconv.FormatUint(n, 10), hex(n)
				holdInt(t, sign+decimal)
				holdInt(t, sign+"0x"+hexadecimal)
				holdInt(t, sign+"0x"+strings.ToUpper(hexadecimal))
				// A number that is too great for 64 bits may be a fitting one modulo 2^64.
				holdInt(t, sign+decimal+decimal)
				holdInt(t, sign+"0x1"+strings.Repeat("0", 16-len(hexadecimal))+hexadecimal)
				holdInt(t, sign+strings.Repeat("0", 40)+decimal)
			}
		}
	}
}

func TestIntEveryShortText(t *testing.T) {
	everyText("+-_0x19aFg", 5, func(text string) { holdInt(t, text) })
}

func TestIntEveryChange(t *testing.T) {
	for _, text := range []string{"0", "12", "+1_27", "-128", "0xf_F", "-0x8000", "4_294_967_295", "0xFFFFffff", "18446744073709551615", "-0x8000000000000000"} {
		everyChange(text, func(text string) { holdInt(t, text) })
	}
}

func TestIntLongTexts(t *testing.T) {
	zeros := strings.Repeat("0", 1<<20)
	for _, bits := range integerWidths {
		checkInt(t, bits, zeros, 0, true)
		checkInt(t, bits, zeros+"1_7", 17, true)
		checkInt(t, bits, "-0x"+zeros+"1", 1<<bits-1, true)
		checkInt(t, bits, "1"+zeros, 0, false)
		checkInt(t, bits, "-0x1"+zeros, 0, false)
		checkInt(t, bits, zeros+"_", 0, false)
		checkInt(t, bits, strings.Repeat("9", 1<<20), 0, false)
		checkInt(t, bits, strings.Repeat("_", 1<<20), 0, false)
	}
}

func TestIntOtherWidths(t *testing.T) {
	for _, bits := range noWidths {
		for _, text := range []string{"0", "1", "-1", "0x0", "", "x"} {
			checkInt(t, bits, text, 0, false)
		}
	}
}

// P8.3: ShowInt and ShowFloat.

// signed is a number as a signed one, worked out by a type of Go.
func signed(bits int, v uint64) int64 {
	switch bits {
	case 8:
		return int64(int8(v))
	case 16:
		return int64(int16(v))
	case 32:
		return int64(int32(v))
	}
	return int64(v)
}

// integers are all numbers of a narrow width, and edges and numbers without a pattern of a wide one.
func integers(bits int) []uint64 {
	var out []uint64
	if bits <= 16 {
		for v := range uint64(1) << bits {
			out = append(out, v)
		}
		return out
	}
	s := sequence(81)
	for k := range bits {
		p := uint64(1) << k
		out = append(out, p-1, p, p+1, -p, -p-1, 1-p, s.next(), s.next()>>k)
	}
	for n := uint64(1); n < 1<<60; n *= 10 {
		out = append(out, n-1, n, n+1, -n, -n-1, 1-n)
	}
	for i := range out {
		out[i] &= 1<<bits - 1
	}
	return out
}

func TestShowInt(t *testing.T) {
	for _, bits := range integerWidths {
		for _, v := range integers(bits) {
			want := strconv.FormatInt(signed(bits, v), 10)
			if got := literal.ShowInt(bits, v); got != want {
				t.Error(bits, v, got, "not", want)
			}
			if got := literal.ShowInt(bits, aboveWidth(bits, v)); got != want {
				t.Error(bits, v, "with more bits above", got, "not", want)
			}
		}
	}
}

func TestShowIntByHand(t *testing.T) {
	for _, c := range []struct {
		bits int
		v    uint64
		want string
	}{
		{8, 0, "0"}, {8, 127, "127"}, {8, 128, "-128"}, {8, 255, "-1"}, {8, 256, "0"}, {8, 0x1ff, "-1"},
		{16, 255, "255"}, {16, 0x8000, "-32768"}, {32, 0x8000, "32768"}, {32, 0xffffffff, "-1"}, {32, 0x80000000, "-2147483648"}, {32, 100, "100"},
		{64, 0xffffffff, "4294967295"}, {64, 1 << 63, "-9223372036854775808"}, {64, 1<<63 - 1, "9223372036854775807"}, {64, math.MaxUint64, "-1"},
	} {
		if got := literal.ShowInt(c.bits, c.v); got != c.want {
			t.Error(c.bits, c.v, got, "not", c.want)
		}
	}
}

func TestShowOtherWidths(t *testing.T) {
	for _, v := range []uint64{0, 1, 0x7f800000, 0x7fc00000, 1 << 31, 1 << 63, math.MaxUint64} {
		for _, bits := range noWidths {
			if got := literal.ShowInt(bits, v); got != "" {
				t.Error("ShowInt", bits, v, got)
			}
		}
		for _, bits := range append([]int{8, 16}, noWidths...) {
			if got := literal.ShowFloat(bits, v); got != "" {
				t.Error("ShowFloat", bits, v, got)
			}
		}
	}
}

func TestShowFloatByHand(t *testing.T) {
	for _, c := range []struct {
		bits int
		v    uint64
		want string
	}{
		{64, math.Float64bits(1.5), "0x3p-1"}, {64, math.Float64bits(-1), "-0x1p0"}, {64, math.Float64bits(12), "0x3p2"}, {64, math.Float64bits(171), "0xabp0"}, {64, math.Float64bits(0.1), "0xccccccccccccdp-55"},
		{64, 0, "0x0p0"}, {64, 1 << 63, "-0x0p0"}, {64, 1, "0x1p-1074"}, {64, 3, "0x3p-1074"}, {64, 6, "0x3p-1073"}, {64, 1<<52 - 1, "0xfffffffffffffp-1074"}, {64, 1 << 52, "0x1p-1022"}, {64, 0x7fefffffffffffff, "0x1fffffffffffffp971"},
		{64, 0x7ff0000000000000, "inf"}, {64, 0xfff0000000000000, "-inf"}, {64, 0x7ff8000000000000, "nan"}, {64, 0xfff8000000000000, "-nan"}, {64, 0x7ff0000000000001, "nan:0x1"}, {64, 0xfff8000000000001, "-nan:0x8000000000001"}, {64, 0x7ff4000000000000, "nan:0x4000000000000"}, {64, math.MaxUint64, "-nan:0xfffffffffffff"},
		{32, uint64(math.Float32bits(1.5)), "0x3p-1"}, {32, 0, "0x0p0"}, {32, 1 << 31, "-0x0p0"}, {32, 1, "0x1p-149"}, {32, 0x80000002, "-0x1p-148"}, {32, 0x007fffff, "0x7fffffp-149"}, {32, 0x00800000, "0x1p-126"}, {32, 0x7f7fffff, "0xffffffp104"}, {32, 0x3f800001, "0x800001p-23"},
		{32, 0x7f800000, "inf"}, {32, 0xff800000, "-inf"}, {32, 0x7fc00000, "nan"}, {32, 0xffc00000, "-nan"}, {32, 0x7f800001, "nan:0x1"}, {32, 0x7fa00000, "nan:0x200000"}, {32, 0x7fffffff, "nan:0x7fffff"}, {32, 0xffc00001, "-nan:0x400001"},
		{32, 0xfeedface_00000000, "0x0p0"}, {32, 0xfeedface_7fc00000, "nan"}, {32, 0x80000000_3f800000, "0x1p0"},
	} {
		if got := literal.ShowFloat(c.bits, c.v); got != c.want {
			t.Error(c.bits, hex(c.v), got, "not", c.want)
		}
	}
}

// floatsOf are floats with the sign 0: small ones, those around powers of 2, at the bounds, and ones without a pattern.
func floatsOf(bits int) []uint64 {
	p := fractionBits(bits)
	inf := infinity(bits)
	out := []uint64{0, 1, 2, 3, 4, 5, inf - 2, inf - 1, inf}
	for k := range bits - 1 {
		a := uint64(1) << k
		out = append(out, a-1, a, a+1, inf-a, inf+a, inf+a-1)
	}
	s := sequence(83)
	for range 3000 {
		a := s.next() >> (65 - bits)
		trailing := s.next() % uint64(p)
		out = append(out, a, a>>trailing<<trailing, a%inf)
	}
	out = slices.DeleteFunc(out, func(a uint64) bool { return a >= signBit(bits) })
	slices.Sort(out)
	return slices.Compact(out)
}

// shown is what ShowFloat has to return.
func shown(bits int, a uint64) string {
	sign := ""
	if a&signBit(bits) != 0 {
		sign = "-"
	}
	a &^= signBit(bits)
	inf := infinity(bits)
	switch {
	case a == 0:
		return sign + "0x0p0"
	case a == inf:
		return sign + "inf"
	case a == inf+1<<(fractionBits(bits)-1):
		return sign + "nan"
	case a > inf:
		return sign + "nan:0x" + hex(a-inf)
	}
	m, e := split(bits, a)
	zeros := m.TrailingZeroBits()
	m.Rsh(m, zeros)
	return sign + "0x" + m.Text(16) + "p" + strconv.Itoa(e+int(zeros))
}

func TestShowFloat(t *testing.T) {
	for _, bits := range floatWidths {
		for _, a := range floatsOf(bits) {
			for _, v := range []uint64{a, a | signBit(bits)} {
				want := shown(bits, v)
				if got := literal.ShowFloat(bits, v); got != want {
					t.Error(bits, hex(v), got, "not", want)
				}
				if got := literal.ShowFloat(bits, aboveWidth(bits, v)); got != want {
					t.Error(bits, hex(v), "with more bits above", got, "not", want)
				}
			}
		}
	}
}

// P8.4: what follows.

func TestShownIntIsReadBack(t *testing.T) {
	for _, bits := range integerWidths {
		for _, v := range integers(bits) {
			checkInt(t, bits, literal.ShowInt(bits, v), v, true)
		}
	}
}

func TestShownFloatIsReadBack(t *testing.T) {
	for _, bits := range floatWidths {
		for _, a := range floatsOf(bits) {
			checkFloat(t, bits, literal.ShowFloat(bits, a), a, true)
			checkFloat(t, bits, literal.ShowFloat(bits, a|signBit(bits)), a|signBit(bits), true)
		}
	}
	const step = 9973 // no divisor of a power of 2, so all kinds of fractions come by
	for v := uint64(0); v < 1<<32; v += step {
		checkFloat(t, 32, literal.ShowFloat(32, v), v, true)
	}
}

// allPlaces are a text's places between two digits, where a _ may stand.
func allPlaces(text string) []int {
	digits, start := "0123456789", 0
	if i := strings.Index(text, "0x"); i >= 0 {
		digits, start = digits+"abcdefABCDEF", i+2
	}
	var out []int
	for i := start + 1; i < len(text); i++ {
		if strings.IndexByte(digits, text[i-1]) >= 0 && strings.IndexByte(digits, text[i]) >= 0 {
			out = append(out, i)
		}
	}
	return out
}

// withLines is a text with a _ at all of some places, which increase.
func withLines(text string, places []int) string {
	for _, i := range slices.Backward(places) {
		text = text[:i] + "_" + text[i:]
	}
	return text
}

func TestLinesChangeNothing(t *testing.T) {
	for _, text := range []string{"12345", "-0x1aF", "+255", "4294967295", "0xffffffff"} {
		for _, bits := range integerWidths {
			want, ok := literal.Int(bits, text)
			places := allPlaces(text)
			checkInt(t, bits, withLines(text, places), want, ok)
			for i := range places {
				checkInt(t, bits, withLines(text, places[i:i+1]), want, ok)
			}
		}
	}
	for _, text := range []string{"12345.6789e+12", "-0x1a2b.c3dep-12", "0xff.p10", "100.", "1e10", "1e1000", "nan:0x12aF", "-nan:0x7fffff", "0x1234567.89abcdefP012", "12.50E-007"} {
		for _, bits := range floatWidths {
			want, ok := literal.Float(bits, text)
			places := allPlaces(text)
			checkFloat(t, bits, withLines(text, places), want, ok)
			for i := range places {
				checkFloat(t, bits, withLines(text, places[i:i+1]), want, ok)
			}
		}
	}
}

func TestSignChangesOnlySign(t *testing.T) {
	for _, text := range []string{"0", "1", "127", "128", "0x7f", "0x80", "3_2", "32768", "2147483648", "9223372036854775808"} {
		for _, bits := range integerWidths {
			v, ok := literal.Int(bits, text)
			checkInt(t, bits, "+"+text, v, ok)
			if minus, is := literal.Int(bits, "-"+text); is && minus != -v&(1<<bits-1) {
				t.Error(bits, text, v, minus)
			}
		}
	}
	for _, text := range []string{"0", "0x0p0", "0e99", "1", "1.5", "0x1.8p1", "1e38", "1e39", "1e309", "1e-50", "1e-400", "inf", "nan", "nan:0x1", "nan:0x7fffff", "nan:0x0", "x"} {
		for _, bits := range floatWidths {
			v, ok := literal.Float(bits, text)
			checkFloat(t, bits, "+"+text, v, ok)
			if ok {
				v |= signBit(bits)
			}
			checkFloat(t, bits, "-"+text, v, ok)
		}
	}
}
