package encode_test

import (
	"math"
	"reflect"
	"slices"
	"strconv"
	"strings"
	"testing"

	"bodkin/api"
	"bodkin/encode"
	"bodkin/ops"
)

// edges are numbers around those at which an encoding grows, up to the greatest index.
func edges() []int {
	out := []int{0, 1, 2}
	for bit := 2; bit <= 32; bit++ {
		out = append(out, 1<<bit-1, 1<<bit, 1<<bit+1)
	}
	return slices.DeleteFunc(out, func(n int) bool { return n > math.MaxUint32 })
}

// P10.1: instructions without operands, and with indices.
func TestInstructions(t *testing.T) {
	checkCode(t, "nothing", nil, "0b")
	checkCode(t, "an empty list", list(), "0b")
	for _, c := range []struct {
		in   api.Instr
		want string
	}{
		{api.Instr{Op: 0x00}, "00"},
		{api.Instr{Op: 0x01}, "01"},
		{api.Instr{Op: 0x0c, A: 3}, "0c 03"},
		{api.Instr{Op: 0x0d, A: 128}, "0d 80 01"},
		{api.Instr{Op: 0x0e}, "0e 00 00"},
		{api.Instr{Op: 0x0e, A: 7}, "0e 00 07"},
		{api.Instr{Op: 0x0e, A: 2, L: []int{1, 128, 0}}, "0e 03 01 80 01 00 02"},
		{api.Instr{Op: 0x0e, A: math.MaxUint32, L: []int{math.MaxUint32}}, "0e 01 ff ff ff ff 0f ff ff ff ff 0f"},
		{api.Instr{Op: 0x0f}, "0f"},
		{api.Instr{Op: 0x10, A: 127}, "10 7f"},
		{api.Instr{Op: 0x11, A: 1, B: 200}, "11 01 c8 01"},
		{api.Instr{Op: 0x1a}, "1a"},
		{api.Instr{Op: 0x1b}, "1b"},
		{api.Instr{Op: 0x1c}, "1c 00"},
		{api.Instr{Op: 0x1c, L: []int{api.V128}}, "1c 01 7b"},
		{api.Instr{Op: 0x1c, L: valueTypes}, "1c 07 7f 7e 7d 7c 7b 70 6f"},
		{api.Instr{Op: 0x20, A: 64}, "20 40"},
		{api.Instr{Op: 0x22, A: 16384}, "22 80 80 01"},
		{api.Instr{Op: 0x24, A: 5}, "24 05"},
		{api.Instr{Op: 0x25, A: 6}, "25 06"},
		{api.Instr{Op: 0x28, A: 2, B: 300}, "28 02 ac 02"},
		{api.Instr{Op: 0x3e, A: 129, B: math.MaxUint32}, "3e 81 01 ff ff ff ff 0f"},
		{api.Instr{Op: 0x3f}, "3f 00"},
		{api.Instr{Op: 0x40}, "40 00"},
		{api.Instr{Op: 0xc4}, "c4"},
		{api.Instr{Op: 0xd0, A: api.FuncRef}, "d0 70"},
		{api.Instr{Op: 0xd0, A: api.ExternRef}, "d0 6f"},
		{api.Instr{Op: 0xd1}, "d1"},
		{api.Instr{Op: 0xd2, A: 255}, "d2 ff 01"},
		{api.Instr{Op: 0xfc00}, "fc 00"},
		{api.Instr{Op: 0xfc00 + 7}, "fc 07"},
		{api.Instr{Op: 0xfc00 + 8, A: 200}, "fc 08 c8 01 00"},
		{api.Instr{Op: 0xfc00 + 9, A: 200}, "fc 09 c8 01"},
		{api.Instr{Op: 0xfc00 + 10}, "fc 0a 00 00"},
		{api.Instr{Op: 0xfc00 + 11}, "fc 0b 00"},
		{api.Instr{Op: 0xfc00 + 12, A: 1, B: 128}, "fc 0c 01 80 01"},
		{api.Instr{Op: 0xfc00 + 13, A: 4}, "fc 0d 04"},
		{api.Instr{Op: 0xfc00 + 14, A: 128, B: 1}, "fc 0e 80 01 01"},
		{api.Instr{Op: 0xfc00 + 17, A: 9}, "fc 11 09"},
		{api.Instr{Op: 0xfd00, A: 4, B: 128}, "fd 00 04 80 01"},
		{api.Instr{Op: 0xfd00 + 15}, "fd 0f"},
		{api.Instr{Op: 0xfd00 + 21, A: 0}, "fd 15 00"},
		{api.Instr{Op: 0xfd00 + 34, A: 255}, "fd 22 ff"},
		{api.Instr{Op: 0xfd00 + 84, A: 0, B: 128, L: []int{255}}, "fd 54 00 80 01 ff"},
		{api.Instr{Op: 0xfd00 + 91, A: 128, B: 3, L: []int{1}}, "fd 5b 80 01 03 01"},
		{api.Instr{Op: 0xfd00 + 127}, "fd 7f"},
		{api.Instr{Op: 0xfd00 + 128}, "fd 80 01"},
		{api.Instr{Op: 0xfd00 + 255}, "fd ff 01"},
	} {
		checkCode(t, ops.Name(c.in.Op), list(c.in), c.want+"0b")
		checkCode(t, ops.Name(c.in.Op)+" twice", list(c.in, c.in), c.want+c.want+"0b")
		checkCode(t, ops.Name(c.in.Op)+" between others", list(plain(), block(plain(), c.in, plain()), plain()), "01 02 40 01"+c.want+"01 0b 01 0b")
	}
}

// P10.1: numbers of both signs, and of floats and vectors.
func TestConstants(t *testing.T) {
	for _, c := range []struct {
		op   int
		n, h uint64
		want string
	}{
		{0x41, 0, 0, "00"},
		{0x41, 63, 0, "3f"},
		{0x41, 64, 0, "c0 00"},
		{0x41, 127, 0, "ff 00"},
		{0x41, 128, 0, "80 01"},
		{0x41, math.MaxInt32, 0, "ff ff ff ff 07"},
		{0x41, 1 << 31, 0, "80 80 80 80 78"},
		{0x41, math.MaxUint32, 0, "7f"},
		{0x41, math.MaxUint32 - 63, 0, "40"},
		{0x41, math.MaxUint32 - 64, 0, "bf 7f"},
		{0x42, 0, 0, "00"},
		{0x42, 64, 0, "c0 00"},
		{0x42, 1 << 31, 0, "80 80 80 80 08"},
		{0x42, math.MaxUint32, 0, "ff ff ff ff 0f"},
		{0x42, math.MaxInt64, 0, "ff ff ff ff ff ff ff ff ff 00"},
		{0x42, 1 << 63, 0, "80 80 80 80 80 80 80 80 80 7f"},
		{0x42, math.MaxUint64, 0, "7f"},
		{0x43, 0, 0, "00 00 00 00"},
		{0x43, 0x7f800001, 0, "01 00 80 7f"},
		{0x43, 0x89abcdef, 0, "ef cd ab 89"},
		{0x43, math.MaxUint32, 0, "ff ff ff ff"},
		{0x44, 0, 0, "00 00 00 00 00 00 00 00"},
		{0x44, 0x0123456789abcdef, 0, "ef cd ab 89 67 45 23 01"},
		{0x44, 0xfff0000000000001, 0, "01 00 00 00 00 00 f0 ff"},
		{0xfd00 + 12, 0, 0, "00 00 00 00 00 00 00 00 00 00 00 00 00 00 00 00"},
		{0xfd00 + 12, 0x0123456789abcdef, 0xfedcba9876543210, "ef cd ab 89 67 45 23 01 10 32 54 76 98 ba dc fe"},
	} {
		first := map[bool]string{true: "fd 0c", false: strconv.FormatInt(int64(c.op), 16)}[c.op > 255]
		checkCode(t, ops.Name(c.op)+" "+strconv.FormatUint(c.n, 16), list(api.Instr{Op: c.op, N: c.n, H: c.h}), first+c.want+"0b")
	}
	lanes := []int{0, 31, 1, 30, 2, 29, 3, 28, 255, 254, 128, 127, 64, 32, 16, 15}
	checkCode(t, "i8x16.shuffle", list(api.Instr{Op: 0xfd00 + 13, L: lanes}), "fd 0d 00 1f 01 1e 02 1d 03 1c ff fe 80 7f 40 20 10 0f 0b")
}

// P10.1: blocks, their types, and what is nested in them.
func TestBlocks(t *testing.T) {
	for op, first := range map[int]string{0x02: "02", 0x03: "03", 0x04: "04"} {
		checkCode(t, "a block", list(api.Instr{Op: op}), first+"40 0b 0b")
		checkCode(t, "a block with something in it", list(api.Instr{Op: op, Body: list(plain(), number(2))}), first+"40 01 41 02 0b 0b")
		for _, typ := range valueTypes {
			checkCode(t, "a block of a type", list(api.Instr{Op: op, A: 1, B: typ}), first+strconv.FormatInt(int64(typ), 16)+"0b 0b")
		}
		for index, want := range map[int]string{
			0: "00", 1: "01", 63: "3f", 64: "c0 00", 0x6f: "ef 00", 0x7f: "ff 00", 128: "80 01", 8191: "ff 3f", 8192: "80 c0 00",
			math.MaxInt32: "ff ff ff ff 07", 1 << 31: "80 80 80 80 08", math.MaxUint32: "ff ff ff ff 0f",
		} {
			checkCode(t, "a block of an index "+strconv.Itoa(index), list(api.Instr{Op: op, A: 2, B: index, Body: list(plain())}), first+want+"01 0b 0b")
		}
	}
	checkCode(t, "an else with nothing in it", list(fork(nil, nil)), "04 40 05 0b 0b")
	checkCode(t, "an else alone", list(fork(nil, list(plain()))), "04 40 05 01 0b 0b")
	checkCode(t, "a body alone", list(fork(list(plain()), nil)), "04 40 01 05 0b 0b")
	checkCode(t, "both", list(fork(list(plain(), block()), list(number(2), fork(nil, nil)))), "04 40 01 02 40 0b 05 41 02 04 40 05 0b 0b 0b")
	checkCode(t, "an if in an if", list(api.Instr{Op: 0x04, A: 2, B: 1, Body: list(fork(nil, list(plain()))), Other: true, Else: list(plain(), plain())}, plain()), "04 01 04 40 05 01 0b 05 01 01 0b 01 0b")
}

// P10.1: every instruction with whatever may stand behind it, against the second working-out.
func TestEveryInstruction(t *testing.T) {
	s := sequence(1)
	for _, op := range known {
		for range 60 {
			in := s.instr(op, 2)
			l := list(plain(), in)
			b, e := encode.Code(l)
			check(t, ops.Name(op), b, e, []byte(modelCode(l)))
		}
	}
	for range 3000 {
		l := s.code(5)
		b, e := encode.Code(l)
		check(t, "instructions", b, e, []byte(modelCode(l)))
	}
}

// P10.1: the edges of the numbers behind every instruction.
func TestNumbersOfInstructions(t *testing.T) {
	s := sequence(2)
	for _, op := range known {
		in := s.instr(op, 0)
		kind := ops.Imm(op)
		if kind == ops.ImmBlock {
			in.A = 2
		}
		if kind == ops.ImmTable {
			in.L = []int{0}
		}
		for _, n := range edges() {
			letters := operands[kind]
			if strings.Contains(letters, "a") {
				in.A = n
			}
			if strings.Contains(letters, "b") || kind == ops.ImmBlock {
				in.B = n
			}
			if strings.Contains(letters, "l") {
				in.L[0] = n
			}
			if strings.Contains(letters, "i") || strings.Contains(letters, "4") {
				in.N = uint64(n)
			}
			b, e := encode.Code(list(in))
			check(t, ops.Name(op)+" "+strconv.Itoa(n), b, e, []byte(modelCode(list(in))))
		}
		for bit := range 64 {
			if !strings.ContainsAny(operands[kind], "I8") {
				break
			}
			for _, n := range []uint64{1<<bit - 1, 1 << bit, -(1 << bit), -(1 << bit) - 1} {
				in.N = n
				b, e := encode.Code(list(in))
				check(t, ops.Name(op)+" "+strconv.FormatUint(n, 16), b, e, []byte(modelCode(list(in))))
			}
		}
	}
}

// wrong is instructions that are not well-formed.
func wrong() []api.Instr {
	return []api.Instr{
		{Op: -1}, {Op: 0x05}, {Op: 0x06}, {Op: 0x0b}, {Op: 0xc5}, {Op: 0xff}, {Op: 0x100}, {Op: 0xfc00 + 18}, {Op: 0xfd00 + 154}, {Op: 0xfd00 + 256}, {Op: 1 << 32}, {Op: math.MaxInt}, {Op: math.MinInt},
		{Op: 0x01, A: 1}, {Op: 0x01, B: 1}, {Op: 0x01, N: 1}, {Op: 0x01, H: 1}, {Op: 0x01, L: []int{0}}, {Op: 0x01, Body: list(plain())}, {Op: 0x01, Else: list(plain())}, {Op: 0x01, Other: true},
		{Op: 0x02, A: 3}, {Op: 0x02, A: -1}, {Op: 0x02, B: api.I32}, {Op: 0x02, A: 1}, {Op: 0x02, A: 1, B: 0x40}, {Op: 0x02, A: 2, B: -1}, {Op: 0x02, A: 2, B: 1 << 32}, {Op: 0x02, Other: true}, {Op: 0x03, Else: list(plain())}, {Op: 0x04, Else: list(plain())},
		{Op: 0x0c, A: -1}, {Op: 0x0c, A: 1 << 32}, {Op: 0x0e, L: []int{0, -1}}, {Op: 0x0e, L: []int{1 << 32}}, {Op: 0x11, A: -1}, {Op: 0x11, B: 1 << 32}, {Op: 0x1c, L: []int{api.I32, 0x40}}, {Op: 0x1b, L: []int{api.I32}},
		{Op: 0x28, A: 1 << 32}, {Op: 0x28, B: -1}, {Op: 0x3f, A: 1}, {Op: 0x41, N: 1 << 32}, {Op: 0x43, N: 1 << 32}, {Op: 0x42, H: 1}, {Op: 0xd0}, {Op: 0xd0, A: api.I32}, {Op: 0xd0, A: api.FuncRef + 256}, {Op: 0xd2, A: -1},
		{Op: 0xfc00 + 8, A: 1, B: 1}, {Op: 0xfc00 + 10, A: 1}, {Op: 0xfc00 + 10, B: 1}, {Op: 0xfd00 + 13}, {Op: 0xfd00 + 13, L: make([]int, 15)}, {Op: 0xfd00 + 13, L: make([]int, 17)}, {Op: 0xfd00 + 13, L: append(make([]int, 15), 256)},
		{Op: 0xfd00 + 21, A: 256}, {Op: 0xfd00 + 21, A: -1}, {Op: 0xfd00 + 84}, {Op: 0xfd00 + 84, L: []int{0, 0}}, {Op: 0xfd00 + 84, L: []int{256}}, {Op: 0xfd00 + 84, L: []int{-1}},
	}
}

// P10.1, P10.2: an instruction that is not well-formed, wherever it stands.
func TestWrongInstructions(t *testing.T) {
	for i, in := range wrong() {
		what := ops.Name(in.Op) + " " + strconv.Itoa(i)
		for _, l := range [][]api.Instr{
			list(in), list(plain(), in), list(in, plain()), list(block(in)), list(plain(), block(plain(), fork(list(plain()), list(plain(), in)), plain()), plain()),
			list(api.Instr{Op: 0x03, A: 1, B: api.I32, Body: list(in)}), list(fork(list(in), nil)),
		} {
			b, e := encode.Code(l)
			checkNot(t, what, b, e)
			for place, m := range within(l) {
				b, e := encode.Module(m)
				checkNot(t, what+" in a "+place, b, e)
			}
		}
	}
}

// P10.1, P10.2, P10.3: how deep instructions may be nested.
func TestDepth(t *testing.T) {
	for _, nest := range []int{1, 2, api.MaxNest - 1, api.MaxNest} {
		l := tower(nest)
		b, e := encode.Code(l)
		check(t, "nest "+strconv.Itoa(nest), b, e, []byte(modelCode(l)))
		for place, m := range within(l) {
			b, e := encode.Module(m)
			check(t, "nest "+strconv.Itoa(nest)+" in a "+place, b, e, []byte(modelModule(m)))
		}
	}
	for _, nest := range []int{api.MaxNest + 1, api.MaxNest + 2, 2 * api.MaxNest, 1 << 16} {
		for _, l := range [][]api.Instr{tower(nest), slices.Concat(tower(3), tower(nest), tower(api.MaxNest))} {
			b, e := encode.Code(l)
			checkNot(t, "nest "+strconv.Itoa(nest), b, e)
			for place, m := range within(l) {
				b, e := encode.Module(m)
				checkNot(t, "nest "+strconv.Itoa(nest)+" in a "+place, b, e)
			}
		}
	}
	l := slices.Concat(tower(api.MaxNest), tower(api.MaxNest), tower(3))
	b, e := encode.Code(l)
	check(t, "towers", b, e, []byte(modelCode(l)))
	only := list(block())
	for range api.MaxNest - 1 {
		only = list(block(only...))
	}
	checkCode(t, "blocks alone", only, strings.Repeat("02 40", api.MaxNest)+strings.Repeat("0b", api.MaxNest+1))
	b, e = encode.Code(list(block(only...)))
	checkNot(t, "one block more", b, e)
}

// P10.1: instructions that ask for a count in a module ask for none by themselves.
func TestCodeAsksForNoCount(t *testing.T) {
	checkCode(t, "memory.init and data.drop", list(api.Instr{Op: 0xfc00 + 8}, block(api.Instr{Op: 0xfc00 + 9})), "fc 08 00 00 02 40 fc 09 00 0b 0b")
}

// P10.1: many instructions.
func TestManyInstructions(t *testing.T) {
	l := slices.Repeat(list(plain(), block(plain())), 1<<16)
	checkCode(t, "many", l, strings.Repeat("01 02 40 01 0b", 1<<16)+"0b")
	labels := slices.Repeat([]int{300}, 1<<16)
	checkCode(t, "many labels", list(api.Instr{Op: 0x0e, L: labels, A: 1}), "0e 80 80 04"+strings.Repeat("ac 02", 1<<16)+"01 0b")
}

// P10.1: what is handed in is not changed, and what comes out is in new memory.
func TestCodeIsNew(t *testing.T) {
	build := func() []api.Instr {
		s := sequence(3)
		l := tower(9)
		for _, op := range known {
			l = append(l, s.instr(op, 3))
		}
		return l
	}
	l := build()
	first, _ := encode.Code(l)
	if !reflect.DeepEqual(l, build()) {
		t.Error("changed")
	}
	kept := slices.Clone(first)
	second, _ := encode.Code(l)
	for i := range second[:cap(second)] {
		second[:cap(second)][i] = 99
	}
	if !slices.Equal(first, kept) {
		t.Error("two answers share memory")
	}
	third, _ := encode.Code(l)
	if !slices.Equal(third, kept) {
		t.Error("an answer is kept")
	}
}
