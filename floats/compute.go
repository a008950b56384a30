package floats

// computed is what two come to by an operation that answers the canonical NaN for a NaN.
func (f format) computed(op int, a, b uint64) uint64 {
	if f.anyNaN(a, b) {
		return f.canonical()
	}
	x, y := f.rank(a), f.rank(b)
	switch op {
	case Sub:
		b = f.opposite(b)
		fallthrough
	case Add:
		a = f.sum(a, b)
	case Mul:
		a = f.product(a, b)
	case Div:
		a = f.quotient(a, b)
	case Min:
		switch {
		case y < x:
			a = b
		case y == x:
			a |= b // they differ at most in the sign of a zero
		}
	case Max:
		switch {
		case y > x:
			a = b
		case y == x:
			a &= b // they differ at most in the sign of a zero
		}
	}
	return a
}

// sum is the sum of two that are no NaNs.
func (f format) sum(a, b uint64) uint64 {
	if f.size(a) < f.size(b) {
		a, b = b, a
	}
	if f.kind(a) == Infinity {
		if b == f.opposite(a) {
			return f.canonical()
		}
		return a
	}
	x, y := f.parts(a), f.parts(b)
	// The bits of y that lie below those of x get room, as far as the sum leaves some.
	room := 61 - f.fraction
	x.m, y.m = x.m<<room, y.m<<room
	apart := x.e - y.e
	more := y.m&(1<<apart-1) != 0
	x.e, y.m = x.e-room, y.m>>apart
	if x.neg == y.neg {
		x.m += y.m
		return f.round(x, more)
	}
	x.m -= y.m
	if more {
		// A part of 1 is taken off as well: what is left lies a little above the whole number below.
		x.m--
	}
	if x.m == 0 {
		x.neg = false
	}
	return f.round(x, more)
}

// product is the product of two that are no NaNs.
func (f format) product(a, b uint64) uint64 {
	sign := f.sign(a ^ b)
	if f.kind(a) == Infinity || f.kind(b) == Infinity {
		if f.kind(a) == Nought || f.kind(b) == Nought {
			return f.canonical()
		}
		return sign | f.infinity()
	}
	// Of 64 bits each, they make 127 or 128, of which the upper 64 are enough; 0 stays 0.
	x, y := normal(f.parts(a)), normal(f.parts(b))
	high, low := multiplied(x.m, y.m)
	return f.round(number{sign != 0, high, x.e + y.e + 64}, low != 0)
}

// multiplied is a product's upper and lower 64 bits.
func multiplied(a, b uint64) (high, low uint64) {
	const half = 1<<32 - 1
	a1, a0, b1, b0 := a>>32, a&half, b>>32, b&half
	middle := a1*b0 + a0*b0>>32
	other := a0*b1 + middle&half
	return a1*b1 + middle>>32 + other>>32, a * b
}

// quotient is the quotient of two that are no NaNs.
func (f format) quotient(a, b uint64) uint64 {
	sign := f.sign(a ^ b)
	switch {
	case f.kind(a) == f.kind(b) && f.kind(a) != Finite:
		return f.canonical()
	case f.kind(a) == Infinity || f.kind(b) == Nought:
		return sign | f.infinity()
	case f.kind(a) == Nought || f.kind(b) == Infinity:
		return sign
	}
	x, y := normal(f.parts(a)), normal(f.parts(b))
	// The lowest bits are 0, and the remainder needs one above the highest.
	rest, by := x.m>>1, y.m>>1
	const digits = 62
	m := uint64(0)
	for range digits {
		m <<= 1
		if rest >= by {
			rest -= by
			m |= 1
		}
		rest <<= 1
	}
	return f.round(number{sign != 0, m, x.e - y.e - (digits - 1)}, rest != 0)
}

// root is the square root.
func (f format) root(a uint64) uint64 {
	switch {
	case f.kind(a) == Nought:
		return a
	case f.kind(a) == NaN || f.sign(a) != 0:
		return f.canonical()
	case f.kind(a) == Infinity:
		return a
	}
	x := normal(f.parts(a))
	if x.e&1 != 0 {
		// Only an even power has a root; the lowest bit of m is 0.
		x.m >>= 1
		x.e++
	}
	// Two bits of m give one of the root, as in a long division; behind the 64 bits of m come zeros.
	const digits = 60
	m, rest, left := uint64(0), uint64(0), x.m
	for range digits {
		rest = rest<<2 | left>>62
		left <<= 2
		try := m<<2 | 1
		m <<= 1
		if rest >= try {
			rest -= try
			m |= 1
		}
	}
	return f.round(number{false, m, x.e/2 + 32 - digits}, rest != 0)
}

// whole is the integer next to a float, in the direction of the operation.
func (f format) whole(op int, a uint64) uint64 {
	if f.kind(a) == NaN {
		return f.canonical()
	}
	if f.kind(a) == Infinity {
		return a
	}
	x := f.parts(a)
	if x.e >= 0 {
		return a
	}
	// From 63 places on, m lies below a half however far it is moved.
	places := min(-x.e, 63)
	lost, half := x.m&(1<<places-1), uint64(1)<<(places-1)
	x.m, x.e = x.m>>places, 0
	up := false
	switch op {
	case Ceil:
		up = lost != 0 && !x.neg
	case Floor:
		up = lost != 0 && x.neg
	case Nearest:
		up = lost > half || lost == half && x.m&1 != 0
	}
	if up {
		x.m++
	}
	return f.round(x, false)
}
