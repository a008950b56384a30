package flat_test

import (
	"slices"
	"testing"

	"bodkin/api"
	"bodkin/flat"
	"bodkin/ops"
	"bodkin/valid"
)

// dropped is how many values a jump to the function's label drops behind instructions, in a function without results.
func dropped(t *testing.T, m api.Module, l []api.Instr) int {
	t.Helper()
	m.Funcs[0].Body = append(slices.Clone(l), api.Instr{Op: 0x0c})
	got, e := flat.Lower(m, 0)
	if e != api.OK || len(got.Ins) < 2 {
		t.Error("Lower is", int(e), "of", tell(m.Funcs[0].Body))
		return -1
	}
	jump := got.Ins[len(got.Ins)-2]
	if want := (flat.Ins{Op: flat.Jump, T: flat.Target{To: len(got.Ins) - 1, Drop: jump.T.Drop}}); !sameIns(jump, want) {
		t.Error("ahead of the end there is", show(jump), "in", tell(m.Funcs[0].Body))
	}
	return jump.T.Drop
}

// left is how many values are left behind instructions: as many as have to be dropped in a function without results.
func left(m api.Module, l []api.Instr) int {
	for n := range 12 {
		m.Funcs[0].Body = append(slices.Clone(l), slices.Repeat([]api.Instr{{Op: 0x1a}}, n)...)
		if valid.Check(m) == api.OK {
			return n
		}
	}
	return -1
}

// P14.1: behind each instruction, the height is what layer 12 takes it for.
func TestHeights(t *testing.T) {
	g := &maker{pattern: 3}
	for _, op := range known {
		for range 12 {
			m := world("i32 v128 ->; func i64", "")
			g.setting = at(m, 0)
			var in api.Instr
			for in.Op != op {
				in = g.only(op)
			}
			takes, _, transfers := g.sign(in)
			if transfers {
				break
			}
			l := append(values(slices.Concat(valueTypes[:g.next(4)], takes)), in)
			want := left(m, l)
			if got := dropped(t, m, l); got != want || want < 0 {
				t.Error("behind", tell(l), "the height is", got, "and not", want)
			}
		}
	}
}

// only makes an instruction of that number, if it can be.
func (g *maker) only(op int) api.Instr {
	in := api.Instr{Op: op}
	switch ops.Imm(op) {
	case ops.ImmBlock:
		in.A, in.B = 2, g.next(len(g.m.Types))
		in.Body = code("unreachable")
		if ops.Name(op) == "if" {
			in.Other, in.Else = true, code("unreachable")
		}
	case ops.ImmNone:
	case ops.ImmFunc, ops.ImmIndirect, ops.ImmLocal, ops.ImmGlobal, ops.ImmSelect, ops.ImmRef, ops.ImmLabel, ops.ImmTable:
		return g.instr(0)
	default:
		g.operands(&in)
	}
	return in
}

// P14.1: what a call does to the height, for each function and each type.
func TestHeightsOfCalls(t *testing.T) {
	m := world("->", "")
	s := at(m, 0)
	for i := range 2 + len(m.Funcs) {
		in := api.Instr{Op: 0x10, A: i}
		l := append(values(append(typesOf("f32"), s.functionType(i).Params...)), in)
		if got, want := dropped(t, m, l), 1+len(s.functionType(i).Results); got != want {
			t.Error("behind", tell(l), "the height is", got, "and not", want)
		}
	}
	for i, f := range m.Types {
		l := append(values(slices.Concat(typesOf("f32"), f.Params, typesOf("i32"))), api.Instr{Op: 0x11, A: i, B: 1})
		if got, want := dropped(t, m, l), 1+len(f.Results); got != want {
			t.Error("behind", tell(l), "the height is", got, "and not", want)
		}
	}
}

// P14.1: what a block does to the height, for each type and whichever way it ends.
func TestHeightsOfBlocks(t *testing.T) {
	m := world("->", "")
	for i, f := range m.Types {
		for _, op := range []int{0x02, 0x03, 0x04} {
			for _, text := range []string{"unreachable", "br:1", "i32.const return", "i32.const br_table:1"} {
				in := api.Instr{Op: op, A: 2, B: i, Body: code(text)}
				if op == 0x04 {
					in.Other, in.Else = true, code(text)
				}
				takes := f.Params
				if op == 0x04 {
					takes = append(slices.Clone(takes), api.I32)
				}
				l := append(values(append(typesOf("f32 func"), takes...)), in)
				if got, want := dropped(t, m, l), 2+len(f.Results); got != want {
					t.Error("behind", tell(l), "the height is", got, "and not", want)
				}
			}
		}
	}
}
