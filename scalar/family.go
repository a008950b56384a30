package scalar

import (
	"bodkin/api"
	"bodkin/conv"
	"bodkin/floats"
	"bodkin/ints"
)

// The numbers at which families of instructions begin, each of which goes on to the next one; and the last number before a gap.
const (
	i32Eqz        = 0x45
	i32Eq         = 0x46
	i64Eqz        = 0x50
	i64Eq         = 0x51
	f32Eq         = 0x5b
	f64Eq         = 0x61
	i32Clz        = 0x67
	i32Add        = 0x6a
	i64Clz        = 0x79
	i64Add        = 0x7c
	f32Abs        = 0x8b
	f32Add        = 0x92
	f64Abs        = 0x99
	f64Add        = 0xa0
	i32Wrap       = 0xa7
	i32Trunc      = 0xa8
	i64ExtendI32S = 0xac
	i64ExtendI32U = 0xad
	i64Trunc      = 0xae
	f32Convert    = 0xb2
	f32Demote     = 0xb6
	f64Convert    = 0xb7
	f64Promote    = 0xbb
	reinterpret   = 0xbc
	i32Extend8S   = 0xc0
	i64Extend8S   = 0xc2
	i64Extend32S  = 0xc4
	i32TruncSat   = 0xfc00
	i64TruncSat   = 0xfc04
	lastTruncSat  = 0xfc07
	firstVector   = 0xfd00
)

// floatUnaries are the operations on one float, in the order of the instructions, which is not that of layer floats.
var floatUnaries = [...]int{floats.Abs, floats.Neg, floats.Ceil, floats.Floor, floats.Trunc, floats.Nearest, floats.Sqrt}

// result is what an instruction that works on single numbers comes to; bits above its type's may be left over.
func result(op int, a, b uint64) (uint64, api.Errno) {
	switch {
	case op < i32Clz:
		is, e := compared(op, a, b)
		return bit(is), e
	case op < i32Wrap:
		return computed(op, a, b)
	case op < i32Extend8S:
		return converted(op, a)
	case op < i64Extend8S:
		return ints.Un(32, ints.Ext8+op-i32Extend8S, a)
	case op <= i64Extend32S:
		return ints.Un(64, ints.Ext8+op-i64Extend8S, a)
	case op < i64TruncSat:
		return truncated(32, op-i32TruncSat, true, a)
	}
	return truncated(64, op-i64TruncSat, true, a)
}

// compared tells whether a relation holds; where there is no second number, it is the one to 0.
func compared(op int, a, b uint64) (bool, api.Errno) {
	switch {
	case op == i32Eqz:
		return ints.Rel(32, ints.Eq, a, 0)
	case op < i64Eqz:
		return ints.Rel(32, ints.Eq+op-i32Eq, a, b)
	case op == i64Eqz:
		return ints.Rel(64, ints.Eq, a, 0)
	case op < f32Eq:
		return ints.Rel(64, ints.Eq+op-i64Eq, a, b)
	case op < f64Eq:
		return floats.Rel(32, floats.Eq+op-f32Eq, a, b)
	}
	return floats.Rel(64, floats.Eq+op-f64Eq, a, b)
}

// computed is what an operation comes to that leaves a number of the kind that it takes.
func computed(op int, a, b uint64) (uint64, api.Errno) {
	switch {
	case op < i32Add:
		return ints.Un(32, ints.Clz+op-i32Clz, a)
	case op < i64Clz:
		return ints.Bin(32, ints.Add+op-i32Add, a, b)
	case op < i64Add:
		return ints.Un(64, ints.Clz+op-i64Clz, a)
	case op < f32Abs:
		return ints.Bin(64, ints.Add+op-i64Add, a, b)
	case op < f32Add:
		return floats.Un(32, floatUnaries[op-f32Abs], a)
	case op < f64Abs:
		return floats.Bin(32, floats.Add+op-f32Add, a, b)
	case op < f64Add:
		return floats.Un(64, floatUnaries[op-f64Abs], a)
	}
	return floats.Bin(64, floats.Add+op-f64Add, a, b)
}

// converted is a number as one of another type.
func converted(op int, a uint64) (uint64, api.Errno) {
	switch {
	case op == i32Wrap, op == i64ExtendI32U, op >= reinterpret:
		// The bits stay: the operand has been cut to its own type, and the result is cut to its type later.
		return a, api.OK
	case op < i64ExtendI32S:
		return truncated(32, op-i32Trunc, false, a)
	case op == i64ExtendI32S:
		return uint64(ints.Signed(32, a)), api.OK
	case op < f32Convert:
		return truncated(64, op-i64Trunc, false, a)
	case op < f32Demote:
		return floated(32, op-f32Convert, a)
	case op == f32Demote:
		return conv.Demote(a), api.OK
	case op < f64Promote:
		return floated(64, op-f64Convert, a)
	}
	return conv.Promote(a), api.OK
}

// truncated is a float as an integer of so many bits.
func truncated(to, place int, sat bool, a uint64) (uint64, api.Errno) {
	from, signed := variant(place)
	return conv.Trunc(from, to, signed, sat, a)
}

// floated is an integer as a float of so many bits.
func floated(to, place int, a uint64) (uint64, api.Errno) {
	from, signed := variant(place)
	return conv.Convert(from, to, signed, a)
}

// variant is what a conversion reads, by its place in a family of four: 32 bits and then 64, each of them signed and then unsigned.
func variant(place int) (bits int, signed bool) { return 32 << (place / 2), place%2 == 0 }

// bit is 1 for what is so.
func bit(is bool) uint64 {
	if is {
		return 1
	}
	return 0
}
