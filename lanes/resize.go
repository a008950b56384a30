package lanes

import (
	"bodkin/conv"
	"bodkin/ints"
)

// extender is how lanes of so many bits are extended to 64.
func extender(bits int, signed bool) func(lane uint64) uint64 {
	return func(lane uint64) uint64 {
		if signed {
			return uint64(ints.Signed(bits, lane))
		}
		return lane
	}
}

// extended is the lanes of an instruction that makes them twice as wide.
func (in instruction) extended(a, b []uint64) []uint64 {
	extend := extender(in.from.bits, in.signed)
	for i := range a {
		a[i], b[i] = extend(a[i]), extend(b[i])
	}
	half := len(a) / 2
	switch in.verb {
	case "extend_low":
		return a[:half]
	case "extend_high":
		return a[half:]
	case "extmul_low":
		return products(a[:half], b[:half])
	case "extmul_high":
		return products(a[half:], b[half:])
	case "dot":
		return pairSums(products(a, b))
	}
	return pairSums(a)
}

// products are the products of the lanes at each place.
func products(a, b []uint64) []uint64 {
	return each(func(a, b uint64) uint64 { return a * b }, a, b)
}

// pairSums are the sums of the lanes that stand side by side.
func pairSums(l []uint64) []uint64 {
	out := make([]uint64, len(l)/2)
	for i := range out {
		out[i] = l[2*i] + l[2*i+1]
	}
	return out
}

// narrowed is the lanes of an instruction that makes them half as wide. Only what they become may be unsigned: they themselves never are.
func (in instruction) narrowed(l []uint64) []uint64 {
	least, greatest := int64(0), int64(1)<<in.to.bits-1
	if in.signed {
		greatest >>= 1
		least = -greatest - 1
	}
	extend := extender(in.from.bits, true)
	out := make([]uint64, len(l))
	for i, lane := range l {
		out[i] = uint64(min(max(int64(extend(lane)), least), greatest))
	}
	return out
}

// converted is the lanes of an instruction between integers and floats, or floats of both widths. Lanes for which there is no room fall away, and those for which there is no lane are 0.
func (in instruction) converted(l []uint64) []uint64 {
	out := make([]uint64, count(in.to.bits))
	for i := range min(len(l), len(out)) {
		out[i] = in.convert(l[i])
	}
	return out
}

// convert is a lane as one of the other kind; there is no error, since all its widths are known and it saturates.
func (in instruction) convert(lane uint64) uint64 {
	switch in.verb {
	case "demote":
		return conv.Demote(lane)
	case "promote_low":
		return conv.Promote(lane)
	case "trunc_sat":
		lane, _ = conv.Trunc(in.from.bits, in.to.bits, in.signed, true, lane)
	default:
		lane, _ = conv.Convert(in.from.bits, in.to.bits, in.signed, lane)
	}
	return lane
}
