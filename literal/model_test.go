package literal_test

import (
	"math"
	"math/big"
	"regexp"
	"strconv"
	"strings"
)

// The forms of the texts, as the document states them.
const (
	decimals = `[0-9](_?[0-9])*`
	hexes    = `[0-9a-fA-F](_?[0-9a-fA-F])*`
)

var (
	integerForm = regexp.MustCompile(`^[+-]?(` + decimals + `|0x` + hexes + `)$`)
	numberForm  = regexp.MustCompile(`^[+-]?(` + decimals + `(\.(` + decimals + `)?)?([eE][+-]?` + decimals + `)?|0x` + hexes + `(\.(` + hexes + `)?)?([pP][+-]?` + decimals + `)?)$`)
	nanForm     = regexp.MustCompile(`^[+-]?nan:0x` + hexes + `$`)
)

// The layout of the formats, as layer 3 states it.

func fractionBits(bits int) int {
	if bits == 32 {
		return 23
	}
	return 52
}

func lowestPower(bits int) int {
	if bits == 32 {
		return -126 - 23
	}
	return -1022 - 52
}

func infinity(bits int) uint64 {
	if bits == 32 {
		return 0x7f800000
	}
	return 0x7ff0000000000000
}

func signBit(bits int) uint64 { return 1 << (bits - 1) }

// split are the number and the power of 2 that make a finite float with the sign 0; the infinity counts as the float that would follow the greatest one.
func split(bits int, a uint64) (*big.Int, int) {
	p := fractionBits(bits)
	m, x := a%(1<<p), int(a>>p)
	if x > 0 {
		m += 1 << p
		x--
	}
	return new(big.Int).SetUint64(m), lowestPower(bits) + x
}

// cutOf are the least significant bits of a number of any length.
func cutOf(bits int, n *big.Int) uint64 {
	mask := new(big.Int).Lsh(big.NewInt(1), uint(bits))
	return new(big.Int).And(n, mask.Sub(mask, big.NewInt(1))).Uint64()
}

// bare is a text without _ and without its sign, and whether that is a minus.
func bare(text string) (string, bool) {
	text = strings.ReplaceAll(text, "_", "")
	return strings.TrimLeft(text, "+-"), strings.HasPrefix(text, "-")
}

// long is the number that digits make; those of base 16 have 0x in front.
func long(text string) *big.Int {
	base := 10
	if digits, is := strings.CutPrefix(text, "0x"); is {
		text, base = digits, 16
	}
	n, ok := new(big.Int).SetString(text, base)
	if !ok {
		panic(text)
	}
	return n
}

// modelInt is what Int has to return.
func modelInt(bits int, text string) (uint64, bool) {
	if !integerForm.MatchString(text) {
		return 0, false
	}
	digits, neg := bare(text)
	n := long(digits)
	if neg {
		n.Neg(n)
	}
	one := big.NewInt(1)
	least := new(big.Int).Neg(new(big.Int).Lsh(one, uint(bits-1)))
	if n.Cmp(least) < 0 || n.Cmp(new(big.Int).Lsh(one, uint(bits))) >= 0 {
		return 0, false
	}
	return cutOf(bits, n), true
}

// exact is the number of a text without a sign.
func exact(text string) *big.Rat {
	marks, power, places := "eE", int64(10), int64(10)
	text, isHex := strings.CutPrefix(text, "0x")
	if isHex {
		marks, power, places = "pP", 2, 16
	}
	exponent := "0"
	if i := strings.IndexAny(text, marks); i >= 0 {
		text, exponent = text[:i], text[i+1:]
	}
	front, back, _ := strings.Cut(text, ".")
	digits := front + back
	if isHex {
		digits = "0x" + digits
	}
	out := new(big.Rat).SetInt(long(digits))
	e, err := strconv.Atoi(exponent)
	if err != nil {
		panic(exponent)
	}
	out.Quo(out, new(big.Rat).SetInt(new(big.Int).Exp(big.NewInt(places), big.NewInt(int64(len(back))), nil)))
	by := new(big.Rat).SetInt(new(big.Int).Exp(big.NewInt(power), big.NewInt(int64(max(e, -e))), nil))
	if e < 0 {
		by.Inv(by)
	}
	return out.Mul(out, by)
}

// nearest is the float to which a number is rounded.
func nearest(bits int, n *big.Rat) uint64 {
	if bits == 32 {
		x, _ := n.Float32()
		return uint64(math.Float32bits(x))
	}
	x, _ := n.Float64()
	return math.Float64bits(x)
}

// modelFloat is what Float has to return; no exponent is so great that its power takes long.
func modelFloat(bits int, text string) (uint64, bool) {
	unsigned, neg := bare(text)
	sign := uint64(0)
	if neg {
		sign = signBit(bits)
	}
	switch text {
	case "inf", "+inf", "-inf":
		return sign | infinity(bits), true
	case "nan", "+nan", "-nan":
		return sign | infinity(bits) | 1<<(fractionBits(bits)-1), true
	}
	if nanForm.MatchString(text) {
		n := long(strings.TrimPrefix(unsigned, "nan:"))
		if n.Sign() == 0 || n.BitLen() > fractionBits(bits) {
			return 0, false
		}
		return sign | infinity(bits) | n.Uint64(), true
	}
	if !numberForm.MatchString(text) {
		return 0, false
	}
	out := nearest(bits, exact(unsigned))
	if out == infinity(bits) {
		return 0, false
	}
	return sign | out, true
}
