package ints_test

import (
	"math"
	"math/big"
	"slices"
	"strconv"
	"testing"

	"bodkin/api"
	"bodkin/ints"
)

var widths = []int{8, 16, 32, 64}

// others are widths that there are not.
var others = []int{0, 1, 7, 9, 15, 17, 24, 31, 33, 63, 65, 128, -8, -64, 8 + 1<<32, math.MaxInt, math.MinInt}

// garbage lies above the bits of a number, for widths below 64.
const garbage = 0xfeedface_a5c3_d781

// withGarbage is a number with bits above its own.
func withGarbage(bits int, a uint64) uint64 {
	if bits == 64 {
		return a
	}
	return a | garbage<<bits
}

// edges are numbers around the powers of 2, of so many bits, each once.
func edges(bits int) []uint64 {
	mask := uint64(1)<<bits - 1
	out := []uint64{0, 3, 5, 7, 10, 100, 0x55, 0xaa, 0x5555555555555555 & mask, 0xaaaaaaaaaaaaaaaa & mask, 0x123456789abcdef0 & mask}
	for i := range bits {
		p := uint64(1) << i
		out = append(out, p-1, p, p+1, -p&mask, (-p-1)&mask)
	}
	for i, a := range out {
		out[i] = a & mask
	}
	slices.Sort(out)
	return slices.Compact(out)
}

// The rules of the document, worked out with numbers of any length.

func num(n int64) *big.Int { return big.NewInt(n) }

func power(k int) *big.Int { return new(big.Int).Lsh(num(1), uint(k)) }

func unsigned(a uint64) *big.Int { return new(big.Int).SetUint64(a) }

func signed(bits int, a uint64) *big.Int {
	n := unsigned(a)
	if n.Cmp(power(bits-1)) >= 0 {
		n.Sub(n, power(bits))
	}
	return n
}

// modulo brings a number to the range 0 to 2^bits - 1.
func modulo(bits int, n *big.Int) uint64 {
	return new(big.Int).Mod(n, power(bits)).Uint64()
}

// nearest is the nearest number from low to high.
func nearest(n, low, high *big.Int) *big.Int {
	if n.Cmp(low) < 0 {
		return low
	}
	if n.Cmp(high) > 0 {
		return high
	}
	return n
}

func nearestSigned(bits int, n *big.Int) *big.Int {
	half := power(bits - 1)
	return nearest(n, new(big.Int).Neg(half), new(big.Int).Sub(half, num(1)))
}

func nearestUnsigned(bits int, n *big.Int) *big.Int {
	return nearest(n, num(0), new(big.Int).Sub(power(bits), num(1)))
}

// rotated moves each bit by itself.
func rotated(bits int, a uint64, k int) uint64 {
	out := uint64(0)
	for i := range bits {
		out |= a >> i & 1 << ((i + k) % bits)
	}
	return out
}

// quotients are those of DivS, RemS, DivU and RemU.
func quotients(bits, op int, a, b uint64) (uint64, api.Errno) {
	if b == 0 {
		return 0, api.TrapDiv
	}
	x, y := unsigned(a), unsigned(b)
	if op == ints.DivS || op == ints.RemS {
		x, y = signed(bits, a), signed(bits, b)
	}
	q, r := new(big.Int).QuoRem(x, y, new(big.Int))
	if op == ints.RemS || op == ints.RemU {
		return modulo(bits, r), api.OK
	}
	if op == ints.DivS && q.Cmp(power(bits-1)) == 0 {
		return 0, api.TrapOverflow
	}
	return modulo(bits, q), api.OK
}

// bin is what Bin has to return.
func bin(bits, op int, a, b uint64) (uint64, api.Errno) {
	ua, ub, sa, sb := unsigned(a), unsigned(b), signed(bits, a), signed(bits, b)
	k := uint(b % uint64(bits))
	n := new(big.Int)
	switch op {
	case ints.Add:
		n.Add(ua, ub)
	case ints.Sub:
		n.Sub(ua, ub)
	case ints.Mul:
		n.Mul(ua, ub)
	case ints.DivS, ints.DivU, ints.RemS, ints.RemU:
		return quotients(bits, op, a, b)
	case ints.And:
		n.And(ua, ub)
	case ints.Or:
		n.Or(ua, ub)
	case ints.Xor:
		n.Xor(ua, ub)
	case ints.Shl:
		n.Lsh(ua, k)
	case ints.ShrS:
		n.Rsh(sa, k) // of math/big: rounded down
	case ints.ShrU:
		n.Rsh(ua, k)
	case ints.Rotl:
		return rotated(bits, a, int(k)), api.OK
	case ints.Rotr:
		return rotated(bits, a, bits-int(k)), api.OK
	case ints.AddSatS:
		n = nearestSigned(bits, n.Add(sa, sb))
	case ints.SubSatS:
		n = nearestSigned(bits, n.Sub(sa, sb))
	case ints.AddSatU:
		n = nearestUnsigned(bits, n.Add(ua, ub))
	case ints.SubSatU:
		n = nearestUnsigned(bits, n.Sub(ua, ub))
	case ints.MinS:
		n = sa
		if sb.Cmp(sa) < 0 {
			n = sb
		}
	case ints.MaxS:
		n = sa
		if sb.Cmp(sa) > 0 {
			n = sb
		}
	case ints.MinU:
		n = ua
		if ub.Cmp(ua) < 0 {
			n = ub
		}
	case ints.MaxU:
		n = ua
		if ub.Cmp(ua) > 0 {
			n = ub
		}
	case ints.AvgrU:
		n.Rsh(n.Add(n.Add(ua, ub), num(1)), 1)
	case ints.Q15:
		if bits != 16 {
			return 0, api.ErrArg
		}
		n.Mul(sa, sb)
		n = nearestSigned(bits, n.Rsh(n.Add(n, power(14)), 15))
	default:
		return 0, api.ErrArg
	}
	return modulo(bits, n), api.OK
}

// rel is what Rel has to return.
func rel(bits, op int, a, b uint64) (bool, api.Errno) {
	s, u := signed(bits, a).Cmp(signed(bits, b)), unsigned(a).Cmp(unsigned(b))
	switch op {
	case ints.Eq:
		return u == 0, api.OK
	case ints.Ne:
		return u != 0, api.OK
	case ints.LtS:
		return s < 0, api.OK
	case ints.LtU:
		return u < 0, api.OK
	case ints.GtS:
		return s > 0, api.OK
	case ints.GtU:
		return u > 0, api.OK
	case ints.LeS:
		return s <= 0, api.OK
	case ints.LeU:
		return u <= 0, api.OK
	case ints.GeS:
		return s >= 0, api.OK
	case ints.GeU:
		return u >= 0, api.OK
	}
	return false, api.ErrArg
}

// un is what Un has to return.
func un(bits, op int, a uint64) (uint64, api.Errno) {
	n := unsigned(a)
	switch op {
	case ints.Clz:
		return uint64(bits - n.BitLen()), api.OK
	case ints.Ctz:
		if a == 0 {
			return uint64(bits), api.OK
		}
		return uint64(n.TrailingZeroBits()), api.OK
	case ints.Popcnt:
		ones := uint64(0)
		for i := range bits {
			ones += uint64(n.Bit(i))
		}
		return ones, api.OK
	case ints.Ext8, ints.Ext16, ints.Ext32:
		from := map[int]int{ints.Ext8: 8, ints.Ext16: 16, ints.Ext32: 32}[op]
		if bits <= from {
			return 0, api.ErrArg
		}
		return modulo(bits, signed(from, modulo(from, n))), api.OK
	case ints.Abs:
		return modulo(bits, n.Abs(signed(bits, a))), api.OK
	case ints.Neg:
		return modulo(bits, n.Neg(n)), api.OK
	}
	return 0, api.ErrArg
}

// tell names a call.
func tell(what string, bits, op int, numbers ...uint64) string {
	out := what + " " + strconv.Itoa(bits) + ", op " + strconv.Itoa(op) + " of"
	for _, n := range numbers {
		out += " " + strconv.FormatUint(n, 16)
	}
	return out
}

func checkBin(t *testing.T, bits, op int, a, b uint64) {
	t.Helper()
	want, e := bin(bits, op, a, b)
	got, f := ints.Bin(bits, op, a, b)
	if got != want || f != e {
		t.Fatal(tell("Bin", bits, op, a, b), "is", got, int(f), "not", want, int(e))
	}
	if got, f = ints.Bin(bits, op, withGarbage(bits, a), withGarbage(bits, b)); got != want || f != e {
		t.Fatal(tell("Bin", bits, op, a, b), "with more bits above is", got, int(f), "not", want, int(e))
	}
}

func checkRel(t *testing.T, bits, op int, a, b uint64) {
	t.Helper()
	want, e := rel(bits, op, a, b)
	got, f := ints.Rel(bits, op, a, b)
	if got != want || f != e {
		t.Fatal(tell("Rel", bits, op, a, b), "is", got, int(f), "not", want, int(e))
	}
	if got, f = ints.Rel(bits, op, withGarbage(bits, a), withGarbage(bits, b)); got != want || f != e {
		t.Fatal(tell("Rel", bits, op, a, b), "with more bits above is", got, int(f), "not", want, int(e))
	}
}

func checkUn(t *testing.T, bits, op int, a uint64) {
	t.Helper()
	want, e := un(bits, op, a)
	got, f := ints.Un(bits, op, a)
	if got != want || f != e {
		t.Fatal(tell("Un", bits, op, a), "is", got, int(f), "not", want, int(e))
	}
	if got, f = ints.Un(bits, op, withGarbage(bits, a)); got != want || f != e {
		t.Fatal(tell("Un", bits, op, a), "with more bits above is", got, int(f), "not", want, int(e))
	}
}

// P2.1: arguments.

func TestNumbersOfOperations(t *testing.T) {
	bins := []int{ints.Add, ints.Sub, ints.Mul, ints.DivS, ints.DivU, ints.RemS, ints.RemU, ints.And, ints.Or, ints.Xor, ints.Shl, ints.ShrS, ints.ShrU, ints.Rotl, ints.Rotr,
		ints.AddSatS, ints.AddSatU, ints.SubSatS, ints.SubSatU, ints.MinS, ints.MinU, ints.MaxS, ints.MaxU, ints.AvgrU, ints.Q15}
	rels := []int{ints.Eq, ints.Ne, ints.LtS, ints.LtU, ints.GtS, ints.GtU, ints.LeS, ints.LeU, ints.GeS, ints.GeU}
	uns := []int{ints.Clz, ints.Ctz, ints.Popcnt, ints.Ext8, ints.Ext16, ints.Ext32, ints.Abs, ints.Neg}
	for what, l := range map[string][]int{"Bin": bins, "Rel": rels, "Un": uns} {
		for i, op := range l {
			if op != i+1 {
				t.Error(what, "has the number", op, "at place", i)
			}
		}
	}
}

func TestWrongWidths(t *testing.T) {
	for _, bits := range others {
		for op := -1; op <= ints.Q15+1; op++ {
			for _, b := range []uint64{0, 1, math.MaxUint64} {
				if n, e := ints.Bin(bits, op, 9, b); n != 0 || e != api.ErrArg {
					t.Error(tell("Bin", bits, op, 9, b), "is", n, int(e))
				}
				if is, e := ints.Rel(bits, op, b, b); is || e != api.ErrArg {
					t.Error(tell("Rel", bits, op, b, b), "is", is, int(e))
				}
				if n, e := ints.Un(bits, op, b); n != 0 || e != api.ErrArg {
					t.Error(tell("Un", bits, op, b), "is", n, int(e))
				}
			}
		}
		for _, a := range []uint64{0, 1, 0x80, 1 << 63, math.MaxUint64} {
			if n := ints.Signed(bits, a); n != 0 {
				t.Error("Signed", bits, "of", a, "is", n)
			}
		}
	}
}

func TestWrongOperations(t *testing.T) {
	for _, bits := range widths {
		for _, op := range []int{0, -1, -ints.Add, 1 << 32, 1<<32 + ints.Add, math.MaxInt, math.MinInt} {
			wrong(t, bits, op, true, true, true)
		}
		for op := range 100 {
			wrong(t, bits, op, op < ints.Add || op > ints.Q15, op < ints.Eq || op > ints.GeU, op < ints.Clz || op > ints.Neg)
		}
	}
}

// wrong checks that those of Bin, Rel and Un that are asked for do not take an operation.
func wrong(t *testing.T, bits, op int, isBin, isRel, isUn bool) {
	t.Helper()
	for _, b := range []uint64{0, 1, math.MaxUint64} {
		if n, e := ints.Bin(bits, op, 9, b); isBin && (n != 0 || e != api.ErrArg) {
			t.Error(tell("Bin", bits, op, 9, b), "is", n, int(e))
		}
		if is, e := ints.Rel(bits, op, b, b); isRel && (is || e != api.ErrArg) {
			t.Error(tell("Rel", bits, op, b, b), "is", is, int(e))
		}
		if n, e := ints.Un(bits, op, b); isUn && (n != 0 || e != api.ErrArg) {
			t.Error(tell("Un", bits, op, b), "is", n, int(e))
		}
	}
}

func TestSigned(t *testing.T) {
	for _, c := range []struct {
		bits int
		a    uint64
		want int64
	}{
		{8, 0, 0}, {8, 127, 127}, {8, 128, -128}, {8, 255, -1}, {8, 256, 0}, {8, 0x1ff, -1}, {8, math.MaxUint64 - 127, -128},
		{16, 32767, 32767}, {16, 32768, -32768}, {16, 65535, -1}, {16, 255, 255},
		{32, math.MaxInt32, math.MaxInt32}, {32, 1 << 31, math.MinInt32}, {32, math.MaxUint32, -1}, {32, 1<<32 + 5, 5},
		{64, math.MaxInt64, math.MaxInt64}, {64, 1 << 63, math.MinInt64}, {64, math.MaxUint64, -1},
	} {
		if n := ints.Signed(c.bits, c.a); n != c.want {
			t.Error("Signed", c.bits, "of", c.a, "is", n)
		}
	}
	for _, bits := range widths {
		for _, a := range edges(bits) {
			want := signed(bits, a).Int64()
			if n := ints.Signed(bits, a); n != want {
				t.Error("Signed", bits, "of", a, "is", n)
			}
			if n := ints.Signed(bits, withGarbage(bits, a)); n != want {
				t.Error("Signed", bits, "of", a, "with more bits above is", n)
			}
		}
	}
}

// P2.2: binary operations.

// neg is a negative number as 64 bits, which are cut to fewer.
func neg(n int64) uint64 { return uint64(-n) }

func TestBinExamples(t *testing.T) {
	for _, c := range []struct {
		bits, op int
		a, b     uint64
		want     uint64
		e        api.Errno
	}{
		{32, ints.DivS, neg(7), 2, neg(3) & math.MaxUint32, api.OK},
		{32, ints.RemS, neg(7), 2, math.MaxUint32, api.OK},
		{32, ints.RemS, 7, neg(2), 1, api.OK},
		{32, ints.DivU, neg(7), 2, 0x7ffffffc, api.OK},
		{32, ints.RemU, neg(7), 2, 1, api.OK},
		{32, ints.DivS, 7, 0, 0, api.TrapDiv},
		{32, ints.DivS, 7, 1 << 32, 0, api.TrapDiv},
		{32, ints.DivS, 1 << 31, math.MaxUint32, 0, api.TrapOverflow},
		{32, ints.DivS, 1 << 31, math.MaxUint64, 0, api.TrapOverflow},
		{32, ints.RemS, 1 << 31, math.MaxUint32, 0, api.OK},
		{32, ints.DivU, 1 << 31, math.MaxUint32, 0, api.OK},
		{32, ints.RemU, 1 << 31, math.MaxUint32, 1 << 31, api.OK},
		{32, ints.DivS, 1 << 31, 1, 1 << 31, api.OK},
		{64, ints.DivS, 1 << 31, 1<<32 - 1, 0, api.OK},
		{64, ints.DivS, 1 << 63, neg(1), 0, api.TrapOverflow},
		{64, ints.RemS, 1 << 63, neg(1), 0, api.OK},
		{64, ints.DivS, 1 << 63, 0, 0, api.TrapDiv},
		{8, ints.DivS, 128, 255, 0, api.TrapOverflow},
		{16, ints.DivS, 128, 65535, neg(128) & 65535, api.OK},
		{8, ints.AddSatS, 127, 1, 127, api.OK},
		{8, ints.AddSatS, 128, 255, 128, api.OK},
		{8, ints.AddSatU, 255, 1, 255, api.OK},
		{8, ints.SubSatS, 127, 255, 127, api.OK},
		{8, ints.SubSatS, 128, 1, 128, api.OK},
		{8, ints.SubSatS, 0, 128, 127, api.OK},
		{8, ints.SubSatU, 3, 4, 0, api.OK},
		{64, ints.AddSatS, math.MaxInt64, 1, math.MaxInt64, api.OK},
		{64, ints.SubSatS, 1 << 63, 1, 1 << 63, api.OK},
		{64, ints.AddSatU, math.MaxUint64, math.MaxUint64, math.MaxUint64, api.OK},
		{16, ints.Q15, neg(32768), neg(32768), 32767, api.OK},
		{16, ints.Q15, neg(32768), 32767, 0x8001, api.OK},
		{16, ints.Q15, neg(1), 1, 0, api.OK},
		{16, ints.Q15, neg(1), 16385, 0xffff, api.OK},
		{16, ints.Q15, 1, 16384, 1, api.OK},
		{8, ints.Q15, 1, 1, 0, api.ErrArg},
		{32, ints.Q15, 1, 1, 0, api.ErrArg},
		{64, ints.Q15, 1, 1, 0, api.ErrArg},
		{32, ints.Shl, 1, 33, 2, api.OK},
		{64, ints.Shl, 1, 64, 1, api.OK},
		{32, ints.ShrS, 1 << 31, 31, math.MaxUint32, api.OK},
		{32, ints.ShrU, 1 << 31, 31, 1, api.OK},
		{8, ints.ShrS, neg(3), 1, 0xfe, api.OK},
		{8, ints.Rotl, 0x81, 1, 0x03, api.OK},
		{8, ints.Rotr, 0x81, 1, 0xc0, api.OK},
		{64, ints.Rotr, 0x81, 64, 0x81, api.OK},
		{64, ints.AvgrU, math.MaxUint64, math.MaxUint64, math.MaxUint64, api.OK},
		{8, ints.AvgrU, 1, 2, 2, api.OK},
		{8, ints.MinS, 128, 127, 128, api.OK},
		{8, ints.MinU, 128, 127, 127, api.OK},
		{8, ints.MaxS, 128, 127, 127, api.OK},
		{8, ints.MaxU, 128, 127, 128, api.OK},
	} {
		if n, e := ints.Bin(c.bits, c.op, c.a, c.b); n != c.want || e != c.e {
			t.Error(tell("Bin", c.bits, c.op, c.a, c.b), "is", n, int(e), "not", c.want, int(c.e))
		}
	}
}

func TestBinAllBytes(t *testing.T) {
	for op := ints.Add; op <= ints.Q15; op++ {
		for a := range uint64(256) {
			for b := range uint64(256) {
				checkBin(t, 8, op, a, b)
			}
		}
	}
}

func TestBinEdges(t *testing.T) {
	for _, bits := range widths {
		list := edges(bits)
		for op := ints.Add; op <= ints.Q15; op++ {
			for _, a := range list {
				for _, b := range list {
					checkBin(t, bits, op, a, b)
				}
			}
		}
	}
}

func TestQ15Rounds(t *testing.T) {
	for a := uint64(0); a < 1<<16; a += 97 {
		for b := uint64(0); b < 1<<16; b += 1013 {
			checkBin(t, 16, ints.Q15, a, b)
		}
	}
}

// P2.3: comparisons and unary operations.

func TestRelAllBytes(t *testing.T) {
	for op := ints.Eq; op <= ints.GeU; op++ {
		for a := range uint64(256) {
			for b := range uint64(256) {
				checkRel(t, 8, op, a, b)
			}
		}
	}
}

func TestRelEdges(t *testing.T) {
	for _, bits := range widths {
		list := edges(bits)
		for op := ints.Eq; op <= ints.GeU; op++ {
			for _, a := range list {
				for _, b := range list {
					checkRel(t, bits, op, a, b)
				}
			}
		}
	}
}

func TestUnExamples(t *testing.T) {
	for _, c := range []struct {
		bits, op int
		a        uint64
		want     uint64
		e        api.Errno
	}{
		{8, ints.Clz, 1, 7, api.OK},
		{8, ints.Clz, 0, 8, api.OK},
		{8, ints.Clz, 0x100, 8, api.OK},
		{64, ints.Clz, 0, 64, api.OK},
		{64, ints.Clz, 1 << 63, 0, api.OK},
		{32, ints.Ctz, 0, 32, api.OK},
		{32, ints.Ctz, 1 << 32, 32, api.OK},
		{32, ints.Ctz, 1 << 31, 31, api.OK},
		{64, ints.Ctz, 0, 64, api.OK},
		{64, ints.Popcnt, math.MaxUint64, 64, api.OK},
		{16, ints.Popcnt, math.MaxUint64, 16, api.OK},
		{8, ints.Ext8, 0x80, 0, api.ErrArg},
		{16, ints.Ext8, 0x80, 0xff80, api.OK},
		{16, ints.Ext8, 0xff7f, 0x7f, api.OK},
		{8, ints.Ext16, 1, 0, api.ErrArg},
		{16, ints.Ext16, 1, 0, api.ErrArg},
		{32, ints.Ext16, 0x8000, 0xffff8000, api.OK},
		{32, ints.Ext32, 1, 0, api.ErrArg},
		{64, ints.Ext32, 1 << 31, 0xffffffff80000000, api.OK},
		{64, ints.Ext32, 1<<32 + 5, 5, api.OK},
		{8, ints.Abs, 128, 128, api.OK},
		{8, ints.Abs, 129, 127, api.OK},
		{64, ints.Abs, 1 << 63, 1 << 63, api.OK},
		{64, ints.Abs, math.MaxUint64, 1, api.OK},
		{8, ints.Neg, 0, 0, api.OK},
		{8, ints.Neg, 1, 255, api.OK},
		{8, ints.Neg, 128, 128, api.OK},
	} {
		if n, e := ints.Un(c.bits, c.op, c.a); n != c.want || e != c.e {
			t.Error(tell("Un", c.bits, c.op, c.a), "is", n, int(e), "not", c.want, int(c.e))
		}
	}
}

func TestUnShortNumbers(t *testing.T) {
	for op := ints.Clz; op <= ints.Neg; op++ {
		for a := range uint64(256) {
			checkUn(t, 8, op, a)
		}
		for a := range uint64(1 << 16) {
			checkUn(t, 16, op, a)
		}
	}
}

func TestUnEdges(t *testing.T) {
	for _, bits := range widths {
		for op := ints.Clz; op <= ints.Neg; op++ {
			for _, a := range edges(bits) {
				checkUn(t, bits, op, a)
			}
		}
	}
}

// P2.4: what follows.

// must is a result that has no error.
func must(t *testing.T, bits, op int, a, b uint64) uint64 {
	t.Helper()
	n, e := ints.Bin(bits, op, a, b)
	if e != api.OK {
		t.Fatal(tell("Bin", bits, op, a, b), "has error", int(e))
	}
	return n
}

func TestDivisionAndRemainder(t *testing.T) {
	for _, bits := range widths {
		list := edges(bits)
		least, minusOne := uint64(1)<<(bits-1), uint64(1)<<bits-1
		for _, a := range list {
			for _, b := range list[1:] { // the first one is 0
				q, r := must(t, bits, ints.DivU, a, b), must(t, bits, ints.RemU, a, b)
				if n := must(t, bits, ints.Add, must(t, bits, ints.Mul, b, q), r); n != a || r >= b {
					t.Fatal(tell("DivU and RemU", bits, 0, a, b), "are", q, r)
				}
				if a == least && b == minusOne {
					continue
				}
				q, r = must(t, bits, ints.DivS, a, b), must(t, bits, ints.RemS, a, b)
				if n := must(t, bits, ints.Add, must(t, bits, ints.Mul, b, q), r); n != a {
					t.Fatal(tell("DivS and RemS", bits, 0, a, b), "are", q, r)
				}
			}
		}
	}
}

func TestRotatingBack(t *testing.T) {
	for _, bits := range widths {
		for _, a := range edges(bits) {
			for k := range uint64(2*bits + 1) {
				if n := must(t, bits, ints.Rotr, must(t, bits, ints.Rotl, a, k), k); n != a {
					t.Fatal(tell("Rotl and Rotr", bits, 0, a, k), "is", n)
				}
			}
		}
	}
}

func TestOneIsLess(t *testing.T) {
	for _, bits := range widths {
		list := edges(bits)
		for _, op := range []int{ints.LtS, ints.LtU} {
			for _, a := range list {
				for _, b := range list {
					one, _ := ints.Rel(bits, op, a, b)
					other, _ := ints.Rel(bits, op, b, a)
					if want := a != b; (one != other) != want || one && other {
						t.Fatal(tell("Rel", bits, op, a, b), "is", one, "and the other way round", other)
					}
				}
			}
		}
	}
}
