package encode_test

import (
	"bytes"
	"encoding/hex"
	"strconv"
	"strings"
	"testing"

	"bodkin/api"
	"bodkin/encode"
	"bodkin/ops"
)

// header is what all modules begin with.
const header = "00 61 73 6d 01 00 00 00 "

var (
	valueTypes = []int{api.I32, api.I64, api.F32, api.F64, api.V128, api.FuncRef, api.ExternRef}
	refTypes   = []int{api.FuncRef, api.ExternRef}
)

// plain is an instruction that nothing stands behind.
func plain() api.Instr { return api.Instr{Op: 0x01} }

// number is an instruction that has a number.
func number(n uint64) api.Instr { return api.Instr{Op: 0x41, N: n} }

// block is a block with other instructions in it.
func block(body ...api.Instr) api.Instr { return api.Instr{Op: 0x02, Body: body} }

// fork is an if with other instructions in it.
func fork(body, other []api.Instr) api.Instr {
	return api.Instr{Op: 0x04, Body: body, Other: true, Else: other}
}

// list is some instructions.
func list(l ...api.Instr) []api.Instr { return l }

// tower is a nop in as many blocks as make that Nest; in every third of them, it is an else that goes on.
func tower(nest int) []api.Instr {
	l := list(plain())
	for i := 1; i < nest; i++ {
		if i%3 == 0 {
			l = list(plain(), fork(nil, l))
		} else {
			l = list(plain(), block(l...), plain())
		}
	}
	return l
}

// within is modules that have a sequence of instructions, each at another place.
func within(l []api.Instr) map[string]api.Module {
	first := list(plain())
	return map[string]api.Module{
		"body":        {Count: true, Funcs: []api.Code{{Body: l}}},
		"second body": {Count: true, Funcs: []api.Code{{Body: first}, {Type: 7, Locals: []int{api.I32}, Body: l}, {}}},
		"global":      {Globals: []api.Var{{Type: api.GlobalType{Type: api.I32}, Init: first}, {Type: api.GlobalType{Type: api.I32}, Init: l}}},
		"passive":     {Elems: []api.Elem{{Ref: api.FuncRef, Mode: api.Passive, Init: [][]api.Instr{first, l}}}},
		"declared":    {Elems: []api.Elem{{Ref: api.ExternRef, Mode: api.Declared, Init: [][]api.Instr{l}}}},
		"active":      {Elems: []api.Elem{{Ref: api.ExternRef, Offset: first, Init: [][]api.Instr{first, l, first}}}},
		"elem offset": {Elems: []api.Elem{{Ref: api.FuncRef, Offset: l}}},
		"data offset": {Datas: []api.Data{{Mode: api.Passive, Bytes: []byte{1}}, {Offset: l, Bytes: []byte{1}}}},
	}
}

// sequence is numbers without a pattern, the same ones each time.
type sequence uint64

func (s *sequence) word() uint64 {
	*s += 0x9e3779b97f4a7c15
	z := uint64(*s)
	z = (z ^ z>>30) * 0xbf58476d1ce4e5b9
	z = (z ^ z>>27) * 0x94d049bb133111eb
	return z ^ z>>31
}

func (s *sequence) next(n int) int { return int(s.word() % uint64(n)) }

// wide is a number of at most so many bits; small ones are as frequent as great ones.
func (s *sequence) wide(bits int) uint64 { return s.word() >> (64 - bits) >> s.next(bits) }

func (s *sequence) index() int { return int(s.wide(32)) }

// pick is one of some numbers.
func (s *sequence) pick(l []int) int { return l[s.next(len(l))] }

// picks is some of some numbers.
func (s *sequence) picks(l []int, most int) []int {
	out := make([]int, s.next(most+1))
	for i := range out {
		out[i] = s.pick(l)
	}
	return out
}

// bytes is so many bytes.
func (s *sequence) bytes(count int) []int {
	out := make([]int, count)
	for i := range out {
		out[i] = s.next(256)
	}
	return out
}

// instr is an instruction that is well-formed, whatever stands behind its number.
func (s *sequence) instr(op, depth int) api.Instr {
	in := api.Instr{Op: op}
	switch ops.Imm(op) {
	case ops.ImmNone, ops.ImmZero, ops.ImmZeros:
	case ops.ImmBlock:
		in.A = s.next(3)
		in.B = []int{0, s.pick(valueTypes), s.index()}[in.A]
		in.Body = s.code(depth)
		if op == 0x04 && s.next(2) == 0 {
			in.Other, in.Else = true, s.code(depth)
		}
	case ops.ImmTable:
		in.A = s.index()
		for range s.next(5) {
			in.L = append(in.L, s.index())
		}
	case ops.ImmSelect:
		in.L = s.picks(valueTypes, 3)
	case ops.ImmI32, ops.ImmF32:
		in.N = s.wide(32)
	case ops.ImmI64, ops.ImmF64:
		in.N = s.wide(64)
	case ops.ImmV128:
		in.N, in.H = s.wide(64), s.wide(64)
	case ops.ImmRef:
		in.A = s.pick(refTypes)
	case ops.ImmShuffle:
		in.L = s.bytes(16)
	case ops.ImmLane:
		in.A = s.next(256)
	case ops.ImmIndirect, ops.ImmElemTab, ops.ImmTabs, ops.ImmMem:
		in.A, in.B = s.index(), s.index()
	case ops.ImmMemLane:
		in.A, in.B, in.L = s.index(), s.index(), s.bytes(1)
	default:
		in.A = s.index()
	}
	return in
}

// known is all instructions.
var known = ops.All()

// code is instructions that are well-formed, nested at most so deep.
func (s *sequence) code(depth int) []api.Instr {
	if depth == 0 {
		return nil
	}
	var l []api.Instr
	for range s.next(5) {
		op := s.pick(known)
		if s.next(4) == 0 {
			op = 2 + s.next(3)
		}
		l = append(l, s.instr(op, depth-1))
	}
	return l
}

// spell tells bytes.
func spell(b []byte) string {
	if len(b) > 200 {
		return spell(b[:200]) + " and more, " + strconv.Itoa(len(b)) + " in all"
	}
	out := []string{}
	for _, c := range b {
		out = append(out, hex.EncodeToString([]byte{c}))
	}
	return "[" + strings.Join(out, " ") + "]"
}

// unspell is the bytes of a text of hexadecimal digits.
func unspell(t *testing.T, text string) []byte {
	t.Helper()
	b, err := hex.DecodeString(strings.Join(strings.Fields(text), ""))
	if err != nil {
		t.Fatal(text, err)
	}
	return b
}

// check holds what a call answers against the bytes that it has to answer.
func check(t *testing.T, what string, b []byte, e api.Errno, want []byte) {
	t.Helper()
	if e != api.OK || !bytes.Equal(b, want) {
		t.Error(what, "is", spell(b), int(e), "not", spell(want))
	}
}

// checkNot checks that a call answers an error and nothing else.
func checkNot(t *testing.T, what string, b []byte, e api.Errno) {
	t.Helper()
	if e != api.ErrArg || len(b) != 0 {
		t.Error(what, "is", spell(b), int(e))
	}
}

// checkCode checks what Code answers, by a text of hexadecimal digits.
func checkCode(t *testing.T, what string, l []api.Instr, want string) {
	t.Helper()
	b, e := encode.Code(l)
	check(t, what, b, e, unspell(t, want))
}

// checkModule checks what Module answers behind the header.
func checkModule(t *testing.T, what string, m api.Module, want string) {
	t.Helper()
	b, e := encode.Module(m)
	check(t, what, b, e, unspell(t, header+want))
}

// The examples of the document.
func TestExamples(t *testing.T) {
	b, e := encode.Module(api.Module{})
	check(t, "the empty module", b, e, []byte{0, 97, 115, 109, 1, 0, 0, 0})
	b, e = encode.Code([]api.Instr{{Op: 0x41, N: 1<<32 - 1}})
	check(t, "i32.const -1", b, e, []byte{65, 127, 11})
}

// A module as other tools write it: the factorial, and the bytes that it is known by.
func TestFactorial(t *testing.T) {
	get := api.Instr{Op: 0x20}
	one := api.Instr{Op: 0x42, N: 1}
	m := api.Module{
		Types: []api.FuncType{{Params: []int{api.I64}, Results: []int{api.I64}}},
		Funcs: []api.Code{{Body: list(get, api.Instr{Op: 0x50}, api.Instr{
			Op: 0x04, A: 1, B: api.I64, Body: list(one), Other: true,
			Else: list(get, get, one, api.Instr{Op: 0x7d}, api.Instr{Op: 0x10}, api.Instr{Op: 0x7e}),
		})}},
		Exports: []api.Export{{Name: "fac"}},
	}
	checkModule(t, "the factorial", m, `01 06 01 60 01 7e 01 7e 03 02 01 00 07 07 01 03 66 61 63 00 00
0a 17 01 15 00 20 00 50 04 7e 42 01 05 20 00 20 00 42 01 7d 10 00 7e 0b 0b`)
}
