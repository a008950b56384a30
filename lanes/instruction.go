package lanes

import (
	"slices"
	"strings"

	"bodkin/api"
)

// shape is the kind and the width of lanes; the zero value is none.
type shape struct {
	float bool
	bits  int
}

// shapeOf is the shape of a name.
func shapeOf(name string) shape {
	switch name {
	case "i8x16":
		return shape{false, 8}
	case "i16x8":
		return shape{false, 16}
	case "i32x4":
		return shape{false, 32}
	case "i64x2", "v128":
		// Where a vector is only bits, the widest lanes are the fewest.
		return shape{false, 64}
	case "f32x4":
		return shape{true, 32}
	case "f64x2":
		return shape{true, 64}
	}
	return shape{}
}

// instruction is what an instruction's name tells.
type instruction struct {
	verb     string
	from, to shape // the lanes that it reads and those that it makes
	signed   bool
}

// parsed takes a name apart: i32x4.trunc_sat_f64x2_s_zero is trunc_sat, from f64x2 to i32x4, signed.
func parsed(name string) instruction {
	head, verb, _ := strings.Cut(name, ".")
	in := instruction{to: shapeOf(head)}
	in.from = in.to
	verb = strings.TrimSuffix(verb, "_zero")
	verb, in.signed = strings.CutSuffix(verb, "_s")
	verb = strings.TrimSuffix(verb, "_u")
	last := strings.LastIndexByte(verb, '_')
	if s := shapeOf(verb[last+1:]); s.bits != 0 {
		in.from, verb = s, verb[:last]
	}
	in.verb = verb
	return in
}

// operand is the lanes of an argument. Those of a number are all the same, so that they stand beside a vector's; those of an argument that there is not are 0.
func (in instruction) operand(args []api.Value, i int) []uint64 {
	bits := in.from.bits
	switch {
	case i >= len(args):
		return make([]uint64, count(bits))
	case args[i].Type == api.V128:
		return Split(bits, args[i])
	}
	return slices.Repeat([]uint64{args[i].Lo}, count(bits))
}

// number is what an instruction that leaves no vector comes to; bits above its type's may be left over.
func (in instruction) number(imm []int, args []api.Value) uint64 {
	lanes := in.operand(args, 0)
	switch in.verb {
	case "any_true":
		return bit(slices.ContainsFunc(lanes, func(lane uint64) bool { return lane != 0 }))
	case "all_true":
		return bit(!slices.Contains(lanes, 0))
	case "bitmask":
		mask := uint64(0)
		for i, lane := range lanes {
			mask |= lane >> (in.from.bits - 1) << i
		}
		return mask
	}
	extend := extender(in.from.bits, in.signed)
	return extend(lanes[imm[0]])
}

// vector is the lanes that an instruction comes to; bits above their width may be left over.
func (in instruction) vector(imm []int, args []api.Value) []uint64 {
	a, b := in.operand(args, 0), in.operand(args, 1)
	switch in.verb {
	case "splat":
		return a
	case "replace_lane":
		a[imm[0]] = b[imm[0]]
		return a
	case "shuffle":
		return picked(append(a, b...), imm)
	case "swizzle":
		return picked(a, b)
	case "bitselect":
		return chosen(a, b, in.operand(args, 2))
	case "narrow":
		return in.narrowed(append(a, b...))
	case "extend_low", "extend_high", "extmul_low", "extmul_high", "extadd_pairwise", "dot":
		return in.extended(a, b)
	case "trunc_sat", "convert", "convert_low", "demote", "promote_low":
		return in.converted(a)
	}
	return each(in.operation(), a, b)
}

// picked is the lanes at places of a list; where there is no such place, 0.
func picked[N int | uint64](l []uint64, places []N) []uint64 {
	out := make([]uint64, len(places))
	for i, place := range places {
		if place < N(len(l)) {
			out[i] = l[place]
		}
	}
	return out
}

// chosen is the bits of a where those of c are 1, and those of b elsewhere.
func chosen(a, b, c []uint64) []uint64 {
	out := make([]uint64, len(a))
	for i := range out {
		out[i] = a[i]&c[i] | b[i]&^c[i]
	}
	return out
}

// each is what the lanes at each place come to.
func each(do func(a, b uint64) uint64, a, b []uint64) []uint64 {
	out := make([]uint64, len(a))
	for i := range out {
		out[i] = do(a[i], b[i])
	}
	return out
}

// bit is 1 for what is so.
func bit(is bool) uint64 {
	if is {
		return 1
	}
	return 0
}
