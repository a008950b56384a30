package run

import (
	"slices"
	"strings"

	"bodkin/api"
	"bodkin/flat"
	"bodkin/lanes"
	"bodkin/ops"
)

// access does a load or a store.
func (x *machine) access(in *flat.Ins) api.Errno {
	_, leaves, _ := ops.Sign(in.Op)
	if len(leaves) == 0 {
		return x.store(in)
	}
	return x.load(in, leaves[0])
}

// store does a store.
func (x *machine) store(in *flat.Ins) api.Errno {
	l := x.take(2)
	at, v := l[0].Lo+uint64(in.B), l[1]
	n := 1 << ops.Align(in.Op)
	if ops.Imm(in.Op) == ops.ImmMemLane {
		v.Lo = lanes.Split(8*n, v)[in.L[0]]
	}
	return x.mem().Write(at, written(v)[:n])
}

// written are the bytes of a value's bits.
func written(v api.Value) []byte {
	b := make([]byte, 16)
	for i := range 8 {
		b[i], b[8+i] = byte(v.Lo>>(8*i)), byte(v.Hi>>(8*i))
	}
	return b
}

// load does a load that leaves a value of a type.
func (x *machine) load(in *flat.Ins, typ int) api.Errno {
	var v api.Value
	lane := ops.Imm(in.Op) == ops.ImmMemLane
	if lane {
		v = x.take(1)[0]
	}
	b, e := x.mem().Read(x.number()+uint64(in.B), 1<<ops.Align(in.Op))
	if e != api.OK {
		return e
	}
	switch {
	case lane:
		v = replaced(v, in.L[0], b)
	case typ == api.V128:
		v = vector(in.Op, b)
	default:
		v = single(in.Op, typ, b)
	}
	x.put(v)
	return api.OK
}

// read is bytes as a number; of more than 8 bytes, the first 8.
func read(b []byte) uint64 {
	n := uint64(0)
	for i, c := range b {
		n |= uint64(c) << (8 * i)
	}
	return n
}

// extended is a number of so many bits as one of 64, if the instruction is one that extends it.
func extended(op, bits int, n uint64) uint64 {
	if strings.HasSuffix(ops.Name(op), "_s") {
		return uint64(int64(n<<(64-bits)) >> (64 - bits))
	}
	return n
}

// single is bytes as a number of a type.
func single(op, typ int, b []byte) api.Value {
	n := extended(op, 8*len(b), read(b))
	if typ == api.I32 {
		n = uint64(uint32(n))
	}
	return api.Value{Type: typ, Lo: n}
}

// vector is what a load without a lane makes of bytes.
func vector(op int, b []byte) api.Value {
	n := read(b)
	switch {
	case op == opV128Load:
		return api.Value{Type: api.V128, Lo: n, Hi: read(b[8:])}
	case op < opLoad8Splat:
		return widened(op, 8<<((op-opLoad8x8S)/2), n)
	case op < opV128Store:
		bits := 8 * len(b)
		return joined(bits, slices.Repeat([]uint64{n}, 128/bits))
	}
	return api.Value{Type: api.V128, Lo: n}
}

// widened is the lanes of so many bits that are in a number, each of them extended to twice as many.
func widened(op, bits int, n uint64) api.Value {
	l := lanes.Split(bits, api.Value{Lo: n})[:64/bits]
	for i := range l {
		l[i] = extended(op, bits, l[i])
	}
	return joined(2*bits, l)
}

// replaced is a vector with bytes as one of its lanes.
func replaced(v api.Value, lane int, b []byte) api.Value {
	bits := 8 * len(b)
	l := lanes.Split(bits, v)
	l[lane] = read(b)
	return joined(bits, l)
}

// joined is the vector of lanes, of which there are as many as there should be.
func joined(bits int, l []uint64) api.Value {
	v, _ := lanes.Join(bits, l)
	return v
}
