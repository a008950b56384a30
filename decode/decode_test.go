package decode_test

import (
	"encoding/hex"
	"reflect"
	"slices"
	"strconv"
	"strings"
	"testing"

	"bodkin/api"
	"bodkin/decode"
	"bodkin/ops"
	"bodkin/shape"
)

// header is what all modules begin with.
const header = "\x00asm\x01\x00\x00\x00"

var (
	valueTypes = []int{api.I32, api.I64, api.F32, api.F64, api.V128, api.FuncRef, api.ExternRef}
	refTypes   = []int{api.FuncRef, api.ExternRef}
)

// known is all instructions.
var known = ops.All()

// plain is an instruction that nothing stands behind.
func plain() api.Instr { return api.Instr{Op: 0x01} }

// number is an instruction that has a number.
func number(n uint64) api.Instr { return api.Instr{Op: 0x41, N: n} }

// block is a block with other instructions in it.
func block(body ...api.Instr) api.Instr { return api.Instr{Op: 0x02, Body: body} }

// fork is an if with other instructions in it.
func fork(body, other []api.Instr) api.Instr {
	return api.Instr{Op: 0x04, Body: body, Other: true, Else: other}
}

// list is some instructions.
func list(l ...api.Instr) []api.Instr { return l }

// ref is the instruction that an index of functions stands for.
func ref(n int) []api.Instr { return list(api.Instr{Op: 0xd2, A: n}) }

// null is a reference to nothing.
func null(typ int) []api.Instr { return list(api.Instr{Op: 0xd0, A: typ}) }

// spell tells bytes.
func spell(b []byte) string {
	if len(b) > 200 {
		return spell(b[:200]) + " and more, " + strconv.Itoa(len(b)) + " in all"
	}
	out := []string{}
	for _, c := range b {
		out = append(out, hex.EncodeToString([]byte{c}))
	}
	return "[" + strings.Join(out, " ") + "]"
}

// raw is the bytes of a text of hexadecimal digits.
func raw(t *testing.T, text string) string {
	t.Helper()
	b, err := hex.DecodeString(strings.Join(strings.Fields(text), ""))
	if err != nil {
		t.Fatal(text, err)
	}
	return string(b)
}

// same tells whether instructions are the same.
func same(a, b []api.Instr) bool {
	return shape.Same(api.Module{Globals: []api.Var{{Init: a}}}, api.Module{Globals: []api.Var{{Init: b}}})
}

// checkModule holds what Module answers against what it has to: a module, or an error and nothing else.
func checkModule(t *testing.T, what, text string, want api.Module, wantErr api.Errno) {
	t.Helper()
	b := []byte(text)
	m, e := decode.Module(b)
	if e != wantErr || !shape.Same(m, want) || e == api.OK && !shape.May(m) || e != api.OK && !reflect.DeepEqual(m, api.Module{}) {
		t.Error(what, spell(b), "is", m, int(e), "not", want, int(wantErr))
	}
	if string(b) != text {
		t.Error(what, "is changed")
	}
}

// checkCode holds what Code answers against what it has to: instructions, or an error and nothing else.
func checkCode(t *testing.T, what, text string, want []api.Instr, wantErr api.Errno) {
	t.Helper()
	b := []byte(text)
	l, e := decode.Code(b)
	if e != wantErr || !same(l, want) || e != api.OK && l != nil {
		t.Error(what, spell(b), "is", l, int(e), "not", want, int(wantErr))
	}
	if string(b) != text {
		t.Error(what, "is changed")
	}
}

// isModule checks that digits behind the header are a module.
func isModule(t *testing.T, what, digits string, want api.Module) {
	t.Helper()
	checkModule(t, what, header+raw(t, digits), want, api.OK)
}

// noModule checks that digits behind the header are no module.
func noModule(t *testing.T, what, digits string) {
	t.Helper()
	checkModule(t, what, header+raw(t, digits), api.Module{}, api.ErrForm)
}

// isCode checks that digits are instructions: by themselves, and wherever a module can have them.
func isCode(t *testing.T, what, digits string, want ...api.Instr) {
	t.Helper()
	text := raw(t, digits)
	checkCode(t, what, text, want, api.OK)
	for _, p := range placesOfCode(text, want) {
		checkModule(t, what+" in "+p.what, p.text, p.m, api.OK)
	}
}

// noCode checks that bytes are an error: by themselves, and wherever a module can have them.
func noCode(t *testing.T, what, text string, want api.Errno) {
	t.Helper()
	checkCode(t, what, text, nil, want)
	for _, p := range placesOfCode(text, nil) {
		checkModule(t, what+" in "+p.what, p.text, api.Module{}, want)
	}
}

// digitsAreNoCode is noCode of digits that are malformed.
func digitsAreNoCode(t *testing.T, what, digits string) {
	t.Helper()
	noCode(t, what, raw(t, digits), api.ErrForm)
}

// place is a module's bytes that have those of some instructions in them, and the module.
type place struct {
	what string
	text string
	m    api.Module
}

// placesOfCode are modules that have instructions, given as bytes and as what they are, each at another place.
func placesOfCode(text string, l []api.Instr) []place {
	function := sized("\x00" + text)
	first := list(plain())
	global := api.Var{Type: api.GlobalType{Type: api.I64, Mut: true}, Init: l}
	return []place{
		{"a body", header + sectionOf(3, "\x02\x07\x08") + sectionOf(12, "\x00") + sectionOf(10, "\x02\x02\x00\x0b"+function), api.Module{Count: true, Funcs: []api.Code{{Type: 7}, {Type: 8, Body: l}}}},
		{"a global", header + sectionOf(6, "\x02\x7e\x01"+text+"\x7e\x01\x01\x0b"), api.Module{Globals: []api.Var{global, {Type: global.Type, Init: first}}}},
		{"an init", header + sectionOf(9, "\x01\x05\x6f\x02\x01\x0b"+text), api.Module{Elems: []api.Elem{{Ref: api.ExternRef, Mode: api.Passive, Init: [][]api.Instr{first, l}}}}},
		{"an offset in a table", header + sectionOf(9, "\x02\x01\x00\x00\x00"+text+"\x01\x05"), api.Module{Elems: []api.Elem{{Ref: api.FuncRef, Mode: api.Passive}, {Ref: api.FuncRef, Offset: l, Init: [][]api.Instr{ref(5)}}}}},
		{"an offset in another table", header + sectionOf(9, "\x01\x06\x03"+text+"\x6f\x00"), api.Module{Elems: []api.Elem{{Ref: api.ExternRef, Table: 3, Offset: l}}}},
		{"an offset in a memory", header + sectionOf(11, "\x02\x01\x00\x00"+text+"\x01\x05"), api.Module{Datas: []api.Data{{Mode: api.Passive}, {Offset: l, Bytes: []byte{5}}}}},
		{"an offset in another memory", header + sectionOf(11, "\x01\x02\x03"+text+"\x00"), api.Module{Datas: []api.Data{{Mem: 3, Offset: l}}}},
	}
}

// sized is content and its length.
func sized(content string) string { return writtenU(len(content)) + content }

// sectionOf is a section of a number.
func sectionOf(number int, content string) string {
	return string([]byte{byte(number)}) + sized(content)
}

// The examples of the document.
func TestExamples(t *testing.T) {
	checkModule(t, "the empty module", string([]byte{0, 97, 115, 109, 1, 0, 0, 0}), api.Module{}, api.OK)
	checkModule(t, "two sections of types", string([]byte{0, 97, 115, 109, 1, 0, 0, 0, 1, 1, 0, 1, 1, 0}), api.Module{}, api.ErrForm)
	checkModule(t, "one section of types", string([]byte{0, 97, 115, 109, 1, 0, 0, 0, 1, 1, 0}), api.Module{}, api.OK)
}

// A module as other tools write it: the factorial, by the bytes that it is known by.
func TestFactorial(t *testing.T) {
	get := api.Instr{Op: 0x20}
	one := api.Instr{Op: 0x42, N: 1}
	isModule(t, "the factorial", `01 06 01 60 01 7e 01 7e 03 02 01 00 07 07 01 03 66 61 63 00 00
0a 17 01 15 00 20 00 50 04 7e 42 01 05 20 00 20 00 42 01 7d 10 00 7e 0b 0b`, api.Module{
		Types: []api.FuncType{{Params: []int{api.I64}, Results: []int{api.I64}}},
		Funcs: []api.Code{{Body: list(get, api.Instr{Op: 0x50}, api.Instr{
			Op: 0x04, A: 1, B: api.I64, Body: list(one), Other: true,
			Else: list(get, get, one, api.Instr{Op: 0x7d}, api.Instr{Op: 0x10}, api.Instr{Op: 0x7e}),
		})}},
		Exports: []api.Export{{Name: "fac"}},
	})
}

// P11.3: what is handed in is not kept, and what comes out is in new memory.
func TestResultsAreNew(t *testing.T) {
	b := []byte(written(full(), nil))
	m, _ := decode.Module(b)
	if !shape.Same(m, full()) {
		t.Fatal("the full module is", m)
	}
	other, _ := decode.Module(b)
	for i := range b {
		b[i] = 99
	}
	eachList(reflect.ValueOf(&other).Elem(), func(l reflect.Value) {
		for room := l.Slice(0, l.Cap()); room.Len() > 0; room = room.Slice(0, room.Len()-1) {
			room.Index(room.Len() - 1).SetZero()
		}
	})
	if !shape.Same(m, full()) {
		t.Error("the module is changed with its bytes, or with another answer")
	}
	starts := map[uintptr]bool{}
	eachList(reflect.ValueOf(&m).Elem(), func(l reflect.Value) {
		for i := range l.Cap() {
			at := l.Slice(0, l.Cap()).Index(i).UnsafeAddr()
			if starts[at] {
				t.Error("two lists of a module share memory:", l.Type())
			}
			starts[at] = true
		}
	})
	again, _ := decode.Module([]byte(written(full(), nil)))
	if !shape.Same(again, full()) {
		t.Error("an answer is kept")
	}
}

// eachList calls visit with every list of a value, the inner ones first.
func eachList(v reflect.Value, visit func(l reflect.Value)) {
	switch v.Kind() {
	case reflect.Struct:
		for i := range v.NumField() {
			eachList(v.Field(i), visit)
		}
	case reflect.Slice:
		for i := range v.Len() {
			eachList(v.Index(i), visit)
		}
		visit(v)
	}
}

// P11.3: what Code answers is in new memory.
func TestCodeIsNew(t *testing.T) {
	b := []byte(raw(t, "1c 02 7f 7e 0e 01 05 06 02 40 01 0b fd 0d 00 01 02 03 04 05 06 07 08 09 0a 0b 0c 0d 0e 0f 0b"))
	want, _ := decode.Code(b)
	l, _ := decode.Code(slices.Clone(b))
	eachList(reflect.ValueOf(&l).Elem(), func(l reflect.Value) {
		for i := range l.Len() {
			l.Index(i).SetZero()
		}
	})
	for i := range b {
		b[i] = 99
	}
	shuffle := []int{0, 1, 2, 3, 4, 5, 6, 7, 8, 9, 10, 11, 12, 13, 14, 15}
	if !same(want, list(api.Instr{Op: 0x1c, L: []int{api.I32, api.I64}}, api.Instr{Op: 0x0e, A: 6, L: []int{5}}, block(plain()), api.Instr{Op: 0xfd0d, L: shuffle})) {
		t.Error("changed:", want)
	}
}
