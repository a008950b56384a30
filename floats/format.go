package floats

// format is how many bits of a float its exponent and its fraction have; the zero value is the format of no float.
type format struct {
	exponent, fraction int
}

// number is m times 2 to the power of e, or that below 0.
type number struct {
	neg bool
	m   uint64
	e   int
}

// formatOf is the format of the floats of so many bits.
func formatOf(bits int) format {
	switch bits {
	case 32:
		return format{8, 23}
	case 64:
		return format{11, 52}
	}
	return format{}
}

// known tells whether there are floats of this format.
func (f format) known() bool { return f != format{} }

// signBit is the sign of a float below 0.
func (f format) signBit() uint64 { return 1 << (f.exponent + f.fraction) }

// infinity is the infinity above 0.
func (f format) infinity() uint64 { return (1<<f.exponent - 1) << f.fraction }

// canonical is the NaN that is answered.
func (f format) canonical() uint64 { return f.infinity() | 1<<(f.fraction-1) }

// lowest is the power of 2 that the last bit of the smallest floats counts.
func (f format) lowest() int { return 2 - 1<<(f.exponent-1) - f.fraction }

// cut is a float without the bits that its format does not have.
func (f format) cut(a uint64) uint64 { return a & (f.signBit()<<1 - 1) }

// size is a float with the sign 0.
func (f format) size(a uint64) uint64 { return a &^ f.signBit() }

// sign is a float's sign, in its place.
func (f format) sign(a uint64) uint64 { return a & f.signBit() }

// opposite is a float with the other sign.
func (f format) opposite(a uint64) uint64 { return a ^ f.signBit() }

// kind is a float's kind.
func (f format) kind(a uint64) int {
	size := f.size(a)
	switch {
	case size == 0:
		return Nought
	case size < f.infinity():
		return Finite
	case size == f.infinity():
		return Infinity
	}
	return NaN
}

// anyNaN tells whether one of two is a NaN.
func (f format) anyNaN(a, b uint64) bool {
	return f.kind(a) == NaN || f.kind(b) == NaN
}

// rank stands to others as its float does, if that is no NaN; both zeros have the same one.
func (f format) rank(a uint64) int64 {
	size := int64(f.size(a))
	if f.sign(a) != 0 {
		return -size
	}
	return size
}

// less tells whether a number is less than another one; a NaN is not.
func (f format) less(a, b uint64) bool {
	return !f.anyNaN(a, b) && f.rank(a) < f.rank(b)
}

// parts is the number that a finite float is.
func (f format) parts(a uint64) number {
	one := uint64(1) << f.fraction
	x := number{f.sign(a) != 0, f.size(a), f.lowest()}
	if steps := x.m >> f.fraction; steps != 0 {
		x.m = x.m%one + one
		x.e += int(steps) - 1
	}
	return x
}

// normal is the same number with the highest bit of m set, if m is not 0.
func normal(x number) number {
	for k := 32; k > 0; k /= 2 {
		if x.m>>(64-k) == 0 {
			x.m <<= k
			x.e -= k
		}
	}
	return x
}

// round is the float nearest to a number, or to a little more than it.
func (f format) round(x number, more bool) uint64 {
	sign := uint64(0)
	if x.neg {
		sign = f.signBit()
	}
	if x.m == 0 {
		return sign
	}
	// A power this far out makes an infinity or a zero of any m, and no computation with it overflows.
	const far = 2048
	x.e = max(-far, min(x.e, far))
	x = normal(x)
	drop := max(63-f.fraction, f.lowest()-x.e)
	if drop > 64 {
		return sign
	}
	const half = 1 << 63
	kept, lost := x.m>>drop, x.m<<(64-drop)
	if lost > half || lost == half && (more || kept&1 != 0) {
		kept++
	}
	// The highest bit of kept is not stored: where there is one, it counts the exponent up, and so does a carry out of the fraction.
	size := uint64(x.e+drop-f.lowest())<<f.fraction + kept
	return sign | min(size, f.infinity())
}
