package decode_test

import (
	"math"
	"slices"
	"strings"
	"testing"

	"bodkin/api"
	"bodkin/ops"
)

// P11.1: instructions without operands, and with indices.
func TestInstructions(t *testing.T) {
	isCode(t, "nothing", "0b")
	for _, c := range []struct {
		digits string
		want   api.Instr
	}{
		{"00", api.Instr{Op: 0x00}},
		{"01", api.Instr{Op: 0x01}},
		{"0c 03", api.Instr{Op: 0x0c, A: 3}},
		{"0d 80 01", api.Instr{Op: 0x0d, A: 128}},
		{"0e 00 07", api.Instr{Op: 0x0e, A: 7}},
		{"0e 03 01 80 01 00 02", api.Instr{Op: 0x0e, A: 2, L: []int{1, 128, 0}}},
		{"0e 01 ff ff ff ff 0f ff ff ff ff 0f", api.Instr{Op: 0x0e, A: math.MaxUint32, L: []int{math.MaxUint32}}},
		{"0f", api.Instr{Op: 0x0f}},
		{"10 7f", api.Instr{Op: 0x10, A: 127}},
		{"11 01 c8 01", api.Instr{Op: 0x11, A: 1, B: 200}},
		{"1a", api.Instr{Op: 0x1a}},
		{"1b", api.Instr{Op: 0x1b}},
		{"1c 00", api.Instr{Op: 0x1c}},
		{"1c 01 7b", api.Instr{Op: 0x1c, L: []int{api.V128}}},
		{"1c 07 7f 7e 7d 7c 7b 70 6f", api.Instr{Op: 0x1c, L: valueTypes}},
		{"20 40", api.Instr{Op: 0x20, A: 64}},
		{"24 05", api.Instr{Op: 0x24, A: 5}},
		{"25 06", api.Instr{Op: 0x25, A: 6}},
		{"28 02 ac 02", api.Instr{Op: 0x28, A: 2, B: 300}},
		{"3e 81 01 ff ff ff ff 0f", api.Instr{Op: 0x3e, A: 129, B: math.MaxUint32}},
		{"3f 00", api.Instr{Op: 0x3f}},
		{"40 00", api.Instr{Op: 0x40}},
		{"c4", api.Instr{Op: 0xc4}},
		{"d0 70", api.Instr{Op: 0xd0, A: api.FuncRef}},
		{"d0 6f", api.Instr{Op: 0xd0, A: api.ExternRef}},
		{"d1", api.Instr{Op: 0xd1}},
		{"d2 ff 01", api.Instr{Op: 0xd2, A: 255}},
		{"fc 00", api.Instr{Op: 0xfc00}},
		{"fc 08 c8 01 00", api.Instr{Op: 0xfc08, A: 200}},
		{"fc 09 c8 01", api.Instr{Op: 0xfc09, A: 200}},
		{"fc 0a 00 00", api.Instr{Op: 0xfc0a}},
		{"fc 0b 00", api.Instr{Op: 0xfc0b}},
		{"fc 0c 01 80 01", api.Instr{Op: 0xfc0c, A: 1, B: 128}},
		{"fc 0d 04", api.Instr{Op: 0xfc0d, A: 4}},
		{"fc 0e 80 01 01", api.Instr{Op: 0xfc0e, A: 128, B: 1}},
		{"fc 11 09", api.Instr{Op: 0xfc11, A: 9}},
		{"fd 00 04 80 01", api.Instr{Op: 0xfd00, A: 4, B: 128}},
		{"fd 0d 00 1f 01 1e 02 1d 03 1c ff fe 80 7f 40 20 10 0f", api.Instr{Op: 0xfd0d, L: []int{0, 31, 1, 30, 2, 29, 3, 28, 255, 254, 128, 127, 64, 32, 16, 15}}},
		{"fd 0f", api.Instr{Op: 0xfd0f}},
		{"fd 15 00", api.Instr{Op: 0xfd15}},
		{"fd 22 ff", api.Instr{Op: 0xfd22, A: 255}},
		{"fd 54 00 80 01 ff", api.Instr{Op: 0xfd54, B: 128, L: []int{255}}},
		{"fd 5b 80 01 03 01", api.Instr{Op: 0xfd5b, A: 128, B: 3, L: []int{1}}},
		{"fd 80 01", api.Instr{Op: 0xfd80}},
		{"fd ff 01", api.Instr{Op: 0xfdff}},
	} {
		name := ops.Name(c.want.Op)
		isCode(t, name, c.digits+"0b", c.want)
		isCode(t, name+" twice", c.digits+c.digits+"0b", c.want, c.want)
		isCode(t, name+" between others", "01 02 40 01"+c.digits+"01 0b 01 0b", plain(), block(plain(), c.want, plain()), plain())
		whole := raw(t, c.digits)
		for size := range len(whole) {
			noCode(t, name+" that ends too early", whole[:size], api.ErrForm)
		}
		noCode(t, name+" without an end", whole, api.ErrForm)
		checkCode(t, name+" with something behind it", whole+"\x0b\x00", nil, api.ErrForm)
		checkCode(t, name+" with two ends", whole+"\x0b\x0b", nil, api.ErrForm)
	}
}

// P11.1: numbers of both signs, and of floats and vectors.
func TestConstants(t *testing.T) {
	for _, c := range []struct {
		digits string
		op     int
		n, h   uint64
	}{
		{"41 00", 0x41, 0, 0},
		{"41 3f", 0x41, 63, 0},
		{"41 c0 00", 0x41, 64, 0},
		{"41 ff ff ff ff 07", 0x41, math.MaxInt32, 0},
		{"41 80 80 80 80 78", 0x41, 1 << 31, 0},
		{"41 7f", 0x41, math.MaxUint32, 0},
		{"41 40", 0x41, math.MaxUint32 - 63, 0},
		{"41 bf 7f", 0x41, math.MaxUint32 - 64, 0},
		{"42 00", 0x42, 0, 0},
		{"42 80 80 80 80 08", 0x42, 1 << 31, 0},
		{"42 ff ff ff ff 0f", 0x42, math.MaxUint32, 0},
		{"42 ff ff ff ff ff ff ff ff ff 00", 0x42, math.MaxInt64, 0},
		{"42 80 80 80 80 80 80 80 80 80 7f", 0x42, 1 << 63, 0},
		{"42 7f", 0x42, math.MaxUint64, 0},
		{"43 01 00 80 7f", 0x43, 0x7f800001, 0},
		{"43 ef cd ab 89", 0x43, 0x89abcdef, 0},
		{"44 ef cd ab 89 67 45 23 01", 0x44, 0x0123456789abcdef, 0},
		{"44 01 00 00 00 00 00 f0 ff", 0x44, 0xfff0000000000001, 0},
		{"fd 0c ef cd ab 89 67 45 23 01 10 32 54 76 98 ba dc fe", 0xfd0c, 0x0123456789abcdef, 0xfedcba9876543210},
	} {
		isCode(t, c.digits, c.digits+"0b", api.Instr{Op: c.op, N: c.n, H: c.h})
		whole := raw(t, c.digits)
		for size := range len(whole) {
			noCode(t, c.digits+" that ends too early", whole[:size], api.ErrForm)
		}
	}
}

// P11.1: numbers that are longer than necessary, up to the edges of their widths.
func TestLongNumbers(t *testing.T) {
	for _, c := range []struct {
		digits string
		want   api.Instr
	}{
		{"0c 80 00", api.Instr{Op: 0x0c}},
		{"0c 83 80 80 80 00", api.Instr{Op: 0x0c, A: 3}},
		{"0e 81 80 80 80 00 82 80 80 80 00 83 80 80 80 00", api.Instr{Op: 0x0e, A: 3, L: []int{2}}},
		{"1c 81 80 80 80 00 7f", api.Instr{Op: 0x1c, L: []int{api.I32}}},
		{"11 81 80 00 82 80 80 00", api.Instr{Op: 0x11, A: 1, B: 2}},
		{"28 82 80 80 80 00 80 80 80 80 00", api.Instr{Op: 0x28, A: 2}},
		{"41 80 00", api.Instr{Op: 0x41}},
		{"41 80 80 80 80 00", api.Instr{Op: 0x41}},
		{"41 ff 7f", api.Instr{Op: 0x41, N: math.MaxUint32}},
		{"41 ff ff ff ff 7f", api.Instr{Op: 0x41, N: math.MaxUint32}},
		{"42 80 80 80 80 80 80 80 80 80 00", api.Instr{Op: 0x42}},
		{"42 ff ff ff ff ff ff ff ff ff 7f", api.Instr{Op: 0x42, N: math.MaxUint64}},
		{"fc 80 00", api.Instr{Op: 0xfc00}},
		{"fc 89 80 80 80 00 05", api.Instr{Op: 0xfc09, A: 5}},
		{"fc 88 80 80 00 85 80 80 80 00 00", api.Instr{Op: 0xfc08, A: 5}},
		{"fd 8f 00", api.Instr{Op: 0xfd0f}},
		{"fd ff 81 80 80 00", api.Instr{Op: 0xfdff}},
		{"fd d4 80 80 80 00 81 00 82 00 03", api.Instr{Op: 0xfd54, A: 1, B: 2, L: []int{3}}},
	} {
		isCode(t, c.digits, c.digits+"0b", c.want)
	}
	for _, digits := range []string{
		"0c 80 80 80 80 80 00", "0c ff ff ff ff 10", "0c 80 80 80 80 10", "0c ff ff ff ff 7f", "0c 80",
		"0e 80 80 80 80 80 00 00", "0e 01 ff ff ff ff 10 00", "0e 00 ff ff ff ff 10", "0e ff ff ff ff 0f 00", "0e 02 00 00",
		"1c 80 80 80 80 80 00", "1c ff ff ff ff 0f 7f", "11 00 80 80 80 80 80 00", "28 80 80 80 80 80 00 00", "28 00 80 80 80 80 10",
		"41 80 80 80 80 80 00", "41 80 80 80 80 08", "41 ff ff ff ff 77", "41 80 80 80 80 70", "41 ff ff ff ff 0f",
		"42 80 80 80 80 80 80 80 80 80 80 00", "42 80 80 80 80 80 80 80 80 80 01", "42 ff ff ff ff ff ff ff ff ff 7e",
		"fc 80 80 80 80 80 00", "fc 80 80 80 80 10", "fd 8f 80 80 80 80 00", "fd ff ff ff ff 1f",
	} {
		digitsAreNoCode(t, digits, digits+"0b")
	}
}

// P11.1: bytes that are no numbers may not be longer.
func TestBytesBehindInstructions(t *testing.T) {
	for _, digits := range []string{
		"3f 01", "3f 80 00", "40 01", "40 ff", "fc 08 00 01", "fc 08 00 80 00", "fc 0a 00 01", "fc 0a 01 00", "fc 0a 80 00 00", "fc 0b 01", "fc 0b 80 00",
		"d0 7f", "d0 7b", "d0 40", "d0 00", "d0 ef 7f", "d0 f0 7f", "1c 01 40", "1c 01 00", "1c 01 ff 7f", "1c 02 7f 60", "1c 01 6e", "1c 01 71", "1c 01 7a", "1c 01 80",
	} {
		digitsAreNoCode(t, digits, digits+"0b")
	}
	isCode(t, "a lane that looks like a long number", "fd 15 80 0b", api.Instr{Op: 0xfd15, A: 128})
	isCode(t, "a lane that looks like an end", "fd 54 00 00 0b 0b", api.Instr{Op: 0xfd54, L: []int{11}})
}

// P11.1: numbers that are no instruction's.
func TestUnknownInstructions(t *testing.T) {
	for op := range 256 {
		if op == 0x0b || op == 0xfc || op == 0xfd || ops.Known(op) {
			continue
		}
		for _, behind := range []string{"", "\x0b", "\x00\x0b", "\x00\x00\x0b\x0b"} {
			noCode(t, "an unknown number", oneByte(op)+behind, api.ErrForm)
			noCode(t, "an unknown number in a block", "\x03\x40"+oneByte(op)+behind+"\x0b\x0b", api.ErrForm)
		}
	}
	tail := strings.Repeat("\x00", 20) + "\x0b"
	for _, prefix := range []int{0xfc, 0xfd} {
		for _, sub := range []int{18, 19, 127, 128, 154, 162, 165, 176, 187, 226, 238, 255, 256, 257, 256 + 15, 256 + 110, 511, 512, 1<<16 - 1, 1 << 16, 1<<31 - 1, 1 << 31, 1<<32 - 1, 1<<32 - 256, 1<<32 - 0xfc00, 1<<32 - 0xfd00 + 1} {
			if sub < 256 && ops.Known(prefix*256+sub) {
				continue
			}
			noCode(t, "an unknown number behind a prefix", oneByte(prefix)+writtenU(sub)+tail, api.ErrForm)
		}
		noCode(t, "a prefix alone", oneByte(prefix), api.ErrForm)
		noCode(t, "a prefix ahead of a number that ends too early", oneByte(prefix)+"\x80", api.ErrForm)
	}
}

// P11.1: blocks, their types, and what is nested in them.
func TestBlocks(t *testing.T) {
	for _, op := range []int{0x02, 0x03, 0x04} {
		first := string("0123456789"[op/16]) + string("0123456789"[op])
		isCode(t, "a block", first+"40 0b 0b", api.Instr{Op: op})
		isCode(t, "a block with something in it", first+"40 01 41 02 0b 01 0b", api.Instr{Op: op, Body: list(plain(), number(2))}, plain())
		for typ := range 256 {
			what := "a block of a byte"
			text := oneByte(op) + oneByte(typ) + "\x0b\x0b"
			switch {
			case typ == 0x40:
			case typ < 0x40:
				checkCode(t, what, text, list(api.Instr{Op: op, A: 2, B: typ}), api.OK)
			case slices.Contains(valueTypes, typ):
				checkCode(t, what, text, list(api.Instr{Op: op, A: 1, B: typ}), api.OK)
			case typ < 0x80:
				noCode(t, what, text, api.ErrForm)
			default:
				checkCode(t, what, text, nil, api.ErrForm)
			}
		}
		for _, c := range []struct {
			digits string
			index  int
		}{
			{"00", 0}, {"3f", 63}, {"c0 00", 64}, {"ff 00", 127}, {"ef 00", 0x6f}, {"80 01", 128}, {"ff 3f", 8191}, {"80 c0 00", 8192},
			{"ff ff ff ff 07", math.MaxInt32}, {"80 80 80 80 08", 1 << 31}, {"ff ff ff ff 0f", math.MaxUint32},
			{"80 00", 0}, {"80 80 80 80 00", 0}, {"c0 80 80 80 00", 64}, {"81 80 00", 1},
		} {
			isCode(t, "a block of an index", first+c.digits+"01 0b 0b", api.Instr{Op: op, A: 2, B: c.index, Body: list(plain())})
		}
		for _, digits := range []string{"41", "6e", "71", "7a", "60", "c0 7f", "ff 7f", "f0 7f", "ff ff ff ff 7f", "80 7f", "80 80 80 80 70", "80 80 80 80 10", "ff ff ff ff 1f", "80 80 80 80 80 00", "ff ff ff ff ff 7f", "80 80 80 80 60"} {
			digitsAreNoCode(t, "a block of no type", first+digits+"0b 0b")
		}
		for _, digits := range []string{"", "40", "40 01", "40 0b", "7f", "00", "80", "80 80 80 80 80", "40 02 40 0b 0b"} {
			digitsAreNoCode(t, "a block that ends too early", first+digits)
		}
	}
}

// P11.1: else.
func TestElse(t *testing.T) {
	isCode(t, "an else with nothing in it", "04 40 05 0b 0b", fork(nil, nil))
	isCode(t, "an else alone", "04 40 05 01 0b 0b", fork(nil, list(plain())))
	isCode(t, "a body alone", "04 40 01 05 0b 0b", fork(list(plain()), nil))
	isCode(t, "no else", "04 40 01 0b 0b", api.Instr{Op: 0x04, Body: list(plain())})
	isCode(t, "both", "04 40 01 02 40 0b 05 41 02 04 40 05 0b 0b 01 0b", fork(list(plain(), block()), list(number(2), fork(nil, nil))), plain())
	isCode(t, "an if in an if", "04 01 04 40 05 01 0b 05 01 01 0b 01 0b", api.Instr{Op: 0x04, A: 2, B: 1, Body: list(fork(nil, list(plain()))), Other: true, Else: list(plain(), plain())}, plain())
	isCode(t, "an else behind an if without one", "04 40 04 40 0b 05 0b 0b", fork(list(api.Instr{Op: 0x04}), nil))
	for _, digits := range []string{
		"05", "05 0b", "01 05 0b 0b", "02 40 05 0b 0b", "03 40 05 0b 0b", "04 40 05 05 0b 0b", "04 40 01 05 01 05 01 0b 0b", "04 40 05 0b 05 0b", "04 40 0b 05 0b",
		"04 40 02 40 05 0b 0b 0b", "04 40 05 03 40 05 0b 0b 0b", "04 40 05 02 40 05 0b 05 0b 0b", "04 40 04 40 05 0b 05 05 0b 0b", "04 40 05", "04 40 05 0b", "04 40 05 01 0b",
	} {
		digitsAreNoCode(t, "else: "+digits, digits)
	}
}

// P11.1: every instruction with whatever may stand behind it, and its numbers as long as may be.
func TestEveryInstruction(t *testing.T) {
	s := sequence(1)
	for _, op := range known {
		for i := range 60 {
			l := list(plain(), s.instr(op, 2), plain())
			w := writer{&s}
			if i%2 == 0 {
				w = writer{}
			}
			checkCode(t, ops.Name(op), w.code(l), l, api.OK)
		}
	}
	for range 3000 {
		l := s.code(5)
		checkCode(t, "instructions", writer{&s}.code(l), l, api.OK)
	}
}

// checkModelCode holds what Code answers against the second working-out.
func checkModelCode(t *testing.T, what, text string) api.Errno {
	t.Helper()
	want, e := modelCode(text)
	checkCode(t, what, text, want, e)
	return e
}

// P11.1, P11.3: all short bytes, and what is behind every number, against the second working-out.
func TestShortCode(t *testing.T) {
	good := 0
	for a := range 256 {
		for b := range 256 {
			for _, text := range []string{oneByte(a), oneByte(a) + oneByte(b), oneByte(a) + oneByte(b) + "\x0b", oneByte(a) + oneByte(b) + "\x00\x0b", oneByte(a) + oneByte(b) + "\x01\x00\x0b", "\x04\x40" + oneByte(a) + oneByte(b) + "\x0b\x0b"} {
				if checkModelCode(t, "short", text) == api.OK {
					good++
				}
			}
		}
	}
	if good < 50000 {
		t.Error("only", good, "are good")
	}
	for _, prefix := range []int{0xfc, 0xfd} {
		for sub := range 600 {
			for a := range 256 {
				checkModelCode(t, "behind a prefix", oneByte(prefix)+writtenU(sub)+oneByte(a)+"\x00\x0b")
			}
			for size := range 20 {
				checkModelCode(t, "behind a prefix", oneByte(prefix)+writtenU(sub)+strings.Repeat("\x00", size)+"\x0b")
			}
		}
	}
}

// P11.1, P11.3: instructions without a pattern, with changes in their bytes, against the second working-out.
func TestChangedCode(t *testing.T) {
	s := sequence(2)
	good := 0
	for range 40000 {
		text := s.changed(writer{&s}.code(s.code(4)))
		if checkModelCode(t, "changed", text) == api.OK {
			good++
		}
	}
	if good < 2000 || good > 38000 {
		t.Error(good, "are good")
	}
}

// changed is bytes with one or two changes.
func (s *sequence) changed(text string) string {
	for range s.next(2) + 1 {
		at := s.next(len(text) + 1)
		left, right := text[:at], text[at:]
		some := oneByte(s.pick([]int{0, 1, 2, 4, 5, 0x0b, 0x0b, 0x40, 0x60, 0x6f, 0x70, 0x7f, 0x80, 0xfc, 0xfd, s.next(256), s.next(256)}))
		switch s.next(4) {
		case 0:
			text = left + some + right
		case 1:
			text = left + right[min(1, len(right)):]
		case 2:
			text = left + some + right[min(1, len(right)):]
		case 3:
			other := s.next(len(text) + 1)
			text = left + text[other:min(len(text), other+s.next(4))] + right
		}
	}
	return text
}

// P11.1: many instructions, and lists whose numbers of elements are too great.
func TestManyInstructions(t *testing.T) {
	l := slices.Repeat(list(plain(), block(plain())), 1<<16)
	checkCode(t, "many", strings.Repeat("\x01\x02\x40\x01\x0b", 1<<16)+"\x0b", l, api.OK)
	labels := slices.Repeat([]int{300}, 1<<16)
	checkCode(t, "many labels", "\x0e\x80\x80\x04"+strings.Repeat("\xac\x02", 1<<16)+"\x01\x0b", list(api.Instr{Op: 0x0e, L: labels, A: 1}), api.OK)
	checkCode(t, "too few labels", "\x0e\x81\x80\x04"+strings.Repeat("\xac\x02", 1<<16), nil, api.ErrForm)
	checkCode(t, "far too few types", "\x1c\xff\xff\xff\xff\x0f"+strings.Repeat("\x7f", 1<<16)+"\x0b", nil, api.ErrForm)
	checkCode(t, "a long block type", "\x02"+strings.Repeat("\x80", 1<<16)+"\x00\x0b\x0b", nil, api.ErrForm)
	checkCode(t, "no bytes", "", nil, api.ErrForm)
}
