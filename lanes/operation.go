package lanes

import (
	"bodkin/floats"
	"bodkin/ints"
)

// operation is what an instruction does with the lanes that stand at one place; one that takes a single vector looks at the first of them alone. There are no errors: the widths and the operations are known, and nothing is divided but floats.
func (in instruction) operation() func(a, b uint64) uint64 {
	switch in.verb {
	case "not":
		return func(a, _ uint64) uint64 { return ^a }
	case "andnot":
		return func(a, b uint64) uint64 { return a &^ b }
	}
	bits, un, rel, bin := in.to.bits, ints.Un, ints.Rel, ints.Bin
	if in.to.float {
		un, rel, bin = floats.Un, floats.Rel, floats.Bin
	}
	if op := in.unary(); op != 0 {
		return func(a, _ uint64) uint64 {
			out, _ := un(bits, op, a)
			return out
		}
	}
	if op := in.relation(); op != 0 {
		return func(a, b uint64) uint64 {
			is, _ := rel(bits, op, a, b)
			return -bit(is)
		}
	}
	op := in.binary()
	return func(a, b uint64) uint64 {
		out, _ := bin(bits, op, a, b)
		return out
	}
}

// unary is the number of an operation on one integer or float; 0: the verb is none.
func (in instruction) unary() int {
	if in.to.float {
		return floatUnary(in.verb)
	}
	switch in.verb {
	case "abs":
		return ints.Abs
	case "neg":
		return ints.Neg
	case "popcnt":
		return ints.Popcnt
	}
	return 0
}

// floatUnary is that of floats.
func floatUnary(verb string) int {
	switch verb {
	case "abs":
		return floats.Abs
	case "neg":
		return floats.Neg
	case "sqrt":
		return floats.Sqrt
	case "ceil":
		return floats.Ceil
	case "floor":
		return floats.Floor
	case "trunc":
		return floats.Trunc
	case "nearest":
		return floats.Nearest
	}
	return 0
}

// relation is the number of a comparison of integers or floats; 0: the verb is none.
func (in instruction) relation() int {
	if in.to.float {
		return floatRelation(in.verb)
	}
	switch in.verb {
	case "eq":
		return ints.Eq
	case "ne":
		return ints.Ne
	case "lt":
		return in.either(ints.LtS, ints.LtU)
	case "gt":
		return in.either(ints.GtS, ints.GtU)
	case "le":
		return in.either(ints.LeS, ints.LeU)
	case "ge":
		return in.either(ints.GeS, ints.GeU)
	}
	return 0
}

// floatRelation is that of floats.
func floatRelation(verb string) int {
	switch verb {
	case "eq":
		return floats.Eq
	case "ne":
		return floats.Ne
	case "lt":
		return floats.Lt
	case "gt":
		return floats.Gt
	case "le":
		return floats.Le
	case "ge":
		return floats.Ge
	}
	return 0
}

// binary is the number of an operation on two integers or floats; 0: the verb is none.
func (in instruction) binary() int {
	if in.to.float {
		return floatBinary(in.verb)
	}
	switch in.verb {
	case "and":
		return ints.And
	case "or":
		return ints.Or
	case "xor":
		return ints.Xor
	case "shl":
		return ints.Shl
	case "shr":
		return in.either(ints.ShrS, ints.ShrU)
	case "add":
		return ints.Add
	case "sub":
		return ints.Sub
	case "mul":
		return ints.Mul
	case "min":
		return in.either(ints.MinS, ints.MinU)
	case "max":
		return in.either(ints.MaxS, ints.MaxU)
	case "add_sat":
		return in.either(ints.AddSatS, ints.AddSatU)
	case "sub_sat":
		return in.either(ints.SubSatS, ints.SubSatU)
	case "avgr":
		return ints.AvgrU
	case "q15mulr_sat":
		return ints.Q15
	}
	return 0
}

// floatBinary is that of floats.
func floatBinary(verb string) int {
	switch verb {
	case "add":
		return floats.Add
	case "sub":
		return floats.Sub
	case "mul":
		return floats.Mul
	case "div":
		return floats.Div
	case "min":
		return floats.Min
	case "max":
		return floats.Max
	case "pmin":
		return floats.PMin
	case "pmax":
		return floats.PMax
	}
	return 0
}

// either is the signed or the unsigned one of two operations.
func (in instruction) either(signed, unsigned int) int {
	if in.signed {
		return signed
	}
	return unsigned
}
