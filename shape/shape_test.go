package shape_test

import (
	"math"
	"strings"
	"testing"

	"bodkin/api"
	"bodkin/ops"
	"bodkin/shape"
)

var (
	indices   = []int{0, 1, 2, 127, 255, 256, 65536, 1<<31 - 1, 1 << 31, 1<<32 - 1}
	noIndices = []int{-1, -2, -(1 << 31), -(1 << 32), 1 << 32, 1<<32 + 1, 1 << 40, math.MaxInt, math.MinInt, math.MinInt + 1}

	valueTypes   = []int{0x7f, 0x7e, 0x7d, 0x7c, 0x7b, 0x70, 0x6f}
	noValueTypes = []int{0, 1, 0x40, 0x6e, 0x71, 0x72, 0x7a, 0x80, -1, -0x7f, 0x7f + 256, 0x7f + 1<<32, math.MaxInt, math.MinInt}

	refTypes   = []int{0x70, 0x6f}
	noRefTypes = append([]int{0x7f, 0x7e, 0x7d, 0x7c, 0x7b}, noValueTypes...)

	bytes   = []int{0, 1, 15, 16, 31, 32, 127, 128, 254, 255}
	noBytes = []int{-1, -128, -255, -256, 256, 257, 1 << 16, 1 << 32, math.MaxInt, math.MinInt}

	texts   = []string{"", "a", "f", "\x00", "\x7f", "\u0080", "é", "߿", "ࠀ", "\ud7ff", "\ue000", "\uffff", "\U00010000", "\U0010ffff", strings.Repeat("€", 1000)}
	noTexts = []string{"\x80", "\xff", "\xc0\x80", "\xc1\xbf", "\xe0\x80\x80", "\xed\xa0\x80", "\xed\xbf\xbf", "\xf0\x80\x80\x80", "\xf4\x90\x80\x80", "a\xc3", "\xe2\x82", "€\xe2\x82b", strings.Repeat("€", 1000) + "\x80"}
)

// op is the number of an instruction.
func op(t *testing.T, name string) int {
	t.Helper()
	n, ok := ops.Find(name)
	if !ok {
		t.Fatal("no", name)
	}
	return n
}

// plain is an instruction that nothing stands behind.
func plain() api.Instr { return api.Instr{Op: 0x01} }

// block is a block with other instructions in it.
func block(body ...api.Instr) api.Instr { return api.Instr{Op: 0x02, Body: body} }

// fork is an if with other instructions in it.
func fork(body, other []api.Instr) api.Instr {
	return api.Instr{Op: 0x04, Body: body, Other: true, Else: other}
}

// list is some instructions.
func list(l ...api.Instr) []api.Instr { return l }

// tower is a nop in as many blocks as make that Nest; in every third of them, it is an else that goes on.
func tower(nest int) []api.Instr {
	l := list(plain())
	for i := 1; i < nest; i++ {
		if i%3 == 0 {
			l = list(plain(), fork(nil, l))
		} else {
			l = list(plain(), block(l...), plain())
		}
	}
	return l
}

// within is modules that have a sequence of instructions, each at another place.
func within(l []api.Instr) map[string]api.Module {
	first, last := list(plain()), api.Code{Type: 3, Body: list(plain())}
	return map[string]api.Module{
		"body":          {Count: true, Funcs: []api.Code{{Body: l}}},
		"second body":   {Count: true, Funcs: []api.Code{last, {Type: 7, Locals: []int{api.I32}, Body: l}, last}},
		"global":        {Globals: []api.Var{{Type: api.GlobalType{Type: api.I32}, Init: l}}},
		"second global": {Globals: []api.Var{{Type: api.GlobalType{Type: api.F64, Mut: true}, Init: first}, {Type: api.GlobalType{Type: api.I32}, Init: l}}},
		"init":          {Elems: []api.Elem{{Ref: api.FuncRef, Mode: api.Passive, Init: [][]api.Instr{l}}}},
		"second init":   {Elems: []api.Elem{{Ref: api.FuncRef, Mode: api.Declared, Init: [][]api.Instr{first, l, first}}}},
		"active init":   {Elems: []api.Elem{{Ref: api.ExternRef, Offset: first, Init: [][]api.Instr{l}}}},
		"elem offset":   {Elems: []api.Elem{{Ref: api.FuncRef, Offset: l}}},
		"data offset":   {Datas: []api.Data{{Mode: api.Passive, Bytes: []byte{1}}, {Offset: l, Bytes: []byte{1}}}},
	}
}

// checkMay checks what May tells of a module.
func checkMay(t *testing.T, what string, m api.Module, want bool) {
	t.Helper()
	if got := shape.May(m); got != want {
		t.Error("May of", what, "is", got)
	}
}

// checkCode checks what May tells of a module with a sequence of instructions, wherever it stands.
func checkCode(t *testing.T, what string, l []api.Instr, want bool) {
	t.Helper()
	for place, m := range within(l) {
		checkMay(t, what+" in a "+place, m, want)
	}
}

// The examples of the document.
func TestExamples(t *testing.T) {
	if got := shape.Nest(list(block(plain()))); got != 2 {
		t.Error(got)
	}
	m := api.Module{Funcs: []api.Code{{Body: list(api.Instr{Op: op(t, "memory.init")})}}}
	checkMay(t, "memory.init without a count", m, false)
	m.Count = true
	checkMay(t, "memory.init with a count", m, true)
}
