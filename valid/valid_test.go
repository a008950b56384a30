package valid_test

import (
	"strconv"
	"strings"
	"testing"

	"bodkin/api"
	"bodkin/ops"
	"bodkin/shape"
	"bodkin/valid"
)

// typeNames are the types as the tests' texts call them.
var typeNames = map[string]int{"i32": api.I32, "i64": api.I64, "f32": api.F32, "f64": api.F64, "v128": api.V128, "func": api.FuncRef, "extern": api.ExternRef}

// valueTypes are all of them, in one order.
var valueTypes = []int{api.I32, api.I64, api.F32, api.F64, api.V128, api.FuncRef, api.ExternRef}

// numberTypes are those of values that are no references.
var numberTypes = valueTypes[:5]

// known is all instructions.
var known = ops.All()

// typesOf reads types.
func typesOf(text string) []int {
	var out []int
	for _, word := range strings.Fields(text) {
		t, ok := typeNames[word]
		if !ok {
			panic("no type: " + word)
		}
		out = append(out, t)
	}
	return out
}

// signature reads a function's type and its locals: parameters, ->, results, and behind a ; the locals.
func signature(text string) (api.FuncType, []int) {
	text, locals, _ := strings.Cut(text, ";")
	params, results, _ := strings.Cut(text, "->")
	return api.FuncType{Params: typesOf(params), Results: typesOf(results)}, typesOf(locals)
}

// words are what is left of a text of instructions.
type words struct{ left []string }

// code reads instructions: their names, each with its operands behind a colon. Those nested in a block follow it, up to else or end.
func code(text string) []api.Instr {
	w := &words{strings.Fields(text)}
	l, last := w.code()
	if last != "" {
		panic("too much " + last + ": " + text)
	}
	return l
}

func (w *words) next() string {
	if len(w.left) == 0 {
		return ""
	}
	word := w.left[0]
	w.left = w.left[1:]
	return word
}

func (w *words) code() (l []api.Instr, last string) {
	for {
		word := w.next()
		if word == "" || word == "else" || word == "end" {
			return l, word
		}
		l = append(l, w.instr(word))
	}
}

// operands reads numbers and types.
func operands(text string) (out []int) {
	for _, word := range strings.FieldsFunc(text, func(r rune) bool { return r == ',' }) {
		n, ok := typeNames[word]
		if !ok {
			var err error
			if n, err = strconv.Atoi(word); err != nil {
				panic(err)
			}
		}
		out = append(out, n)
	}
	return out
}

func (w *words) instr(word string) api.Instr {
	name, text, has := strings.Cut(word, ":")
	op, ok := ops.Find(name)
	if !ok {
		panic("no instruction: " + word)
	}
	in, l := api.Instr{Op: op}, operands(text)
	switch ops.Imm(op) {
	case ops.ImmBlock:
		if has {
			in.A, in.B = 2, l[0]
			if _, is := typeNames[text]; is {
				in.A = 1
			}
		}
		w.nested(&in)
		return in
	case ops.ImmI32, ops.ImmI64, ops.ImmF32, ops.ImmF64, ops.ImmV128:
		l = append(l, 0)
		in.N = uint64(l[0])
		return in
	case ops.ImmShuffle:
		in.L = l
		return in
	case ops.ImmTable, ops.ImmMemLane:
		in.A, in.L = l[0], l[1:]
		return in
	}
	if name == "select" && has {
		return api.Instr{Op: 0x1c, L: l}
	}
	l = append(l, 0, 0)
	in.A, in.B = l[0], l[1]
	return in
}

// nested reads what is nested in a block.
func (w *words) nested(in *api.Instr) {
	last := ""
	in.Body, last = w.code()
	if last == "else" {
		in.Other = true
		in.Else, last = w.code()
	}
	if last != "end" {
		panic("a block without an end")
	}
}

// limits are limits with a maximum.
func limits(from, to int) api.Limits { return api.Limits{Min: from, Max: to, Has: true} }

// world is a valid module but for its function 1, which has type 0. All that instructions may refer to is there:
//
//	functions  0 i32 -> i64, 1, 2 i32 f32 -> f64 v128, 3 func extern -> extern func, 4 ->, 5 i64 -> i64; 4 and 5 are not declared, nor is 1
//	tables     0 extern, 1 func, 2 func, 3 extern
//	globals    0 i64, 1 mutable f32, 2 mutable v128, 3 func
//	segments   of references 0 func, 1 extern; of bytes 0 and 1
func world(f api.FuncType, locals []int, body []api.Instr) api.Module {
	var types []api.FuncType
	for _, text := range []string{"->", "->", "i32 -> i64", "i32 f32 -> f64 v128", "func extern -> extern func", "i64 -> i64", "-> i32 i64", "i32 f32 ->"} {
		typ, _ := signature(text)
		types = append(types, typ)
	}
	types[0] = f
	end := code("unreachable")
	return api.Module{
		Types: types,
		Imports: []api.Import{
			{Module: "m", Name: "f", Kind: api.Func, Type: 2},
			{Module: "m", Name: "g", Kind: api.Global, Global: api.GlobalType{Type: api.I64}},
			{Module: "n", Name: "t", Kind: api.Table, Table: api.TableType{Ref: api.ExternRef, L: limits(1, 2)}},
			{Module: "m", Name: "g", Kind: api.Global, Global: api.GlobalType{Type: api.F32, Mut: true}},
		},
		Funcs:  []api.Code{{Type: 0, Locals: locals, Body: body}, {Type: 3, Body: end}, {Type: 4, Body: end}, {Type: 1}, {Type: 5, Body: end}},
		Tables: []api.TableType{{Ref: api.FuncRef, L: api.Limits{Min: 5}}, {Ref: api.FuncRef, L: limits(0, 0)}, {Ref: api.ExternRef}},
		Mems:   []api.Limits{{Min: 1}},
		Globals: []api.Var{
			{Type: api.GlobalType{Type: api.V128, Mut: true}, Init: code("v128.const")},
			{Type: api.GlobalType{Type: api.FuncRef}, Init: code("ref.func:2")},
		},
		Exports: []api.Export{{Name: "f", Kind: api.Func, Index: 0}, {Name: "t", Kind: api.Table, Index: 1}, {Name: "m", Kind: api.Mem}, {Name: "g", Kind: api.Global, Index: 3}},
		Elems: []api.Elem{
			{Ref: api.FuncRef, Mode: api.Active, Table: 2, Offset: code("i32.const"), Init: [][]api.Instr{code("ref.func:3"), code("ref.null:func")}},
			{Ref: api.ExternRef, Mode: api.Passive, Init: [][]api.Instr{code("ref.null:extern")}},
		},
		Datas: []api.Data{{Mode: api.Passive, Bytes: []byte{1}}, {Offset: code("i32.const"), Bytes: []byte{1, 2}}},
		Count: true,
	}
}

// full is the world, all of it valid.
func full() api.Module {
	f, locals := signature("i32 -> i64; f32")
	return world(f, locals, code("local.get:0 call:0"))
}

// checkIs checks what Check tells of a module, and that the module stays as it is.
func checkIs(t *testing.T, what string, m api.Module, want api.Errno) {
	t.Helper()
	before := shape.Copy(m)
	if got := valid.Check(m); got != want {
		t.Error("Check of", what, "is", int(got), "and not", int(want))
	}
	if !shape.Same(m, before) {
		t.Error("Check of", what, "changes it")
	}
}

// errnoOf is what Check has to tell of a well-formed module.
func errnoOf(is bool) api.Errno {
	if is {
		return api.OK
	}
	return api.ErrInvalid
}

// checkBodies checks functions in the world, all of which are valid or none: a line for each, its signature, a |, and its instructions. A line that begins with a # is a remark.
func checkBodies(t *testing.T, want bool, text string) {
	t.Helper()
	for line := range strings.Lines(strings.TrimSpace(text)) {
		sign, body, ok := strings.Cut(line, "|")
		if strings.HasPrefix(line, "#") {
			continue
		}
		if !ok {
			t.Fatal("no | in", line)
		}
		f, locals := signature(sign)
		checkIs(t, "the function "+strings.TrimSpace(line), world(f, locals, code(body)), errnoOf(want))
	}
}

// values are instructions that leave values of types.
func values(types ...int) []api.Instr {
	var out []api.Instr
	for _, typ := range types {
		out = append(out, value(typ))
	}
	return out
}

// value is an instruction that leaves a value of a type.
func value(typ int) api.Instr {
	switch typ {
	case api.FuncRef, api.ExternRef:
		return api.Instr{Op: 0xd0, A: typ}
	case api.V128:
		return api.Instr{Op: 0xfd0c, N: 1, H: 2}
	}
	return api.Instr{Op: map[int]int{api.I32: 0x41, api.I64: 0x42, api.F32: 0x43, api.F64: 0x44}[typ], N: 3}
}

// The examples of the document.
func TestExamples(t *testing.T) {
	only := func(text string, result int) api.Module {
		return api.Module{Types: []api.FuncType{{Results: []int{result}}}, Funcs: []api.Code{{Body: code(text)}}}
	}
	checkIs(t, "an I32", only("i32.const:1", api.I32), api.OK)
	checkIs(t, "an I32 as an I64", only("i32.const:1", api.I64), api.ErrInvalid)
	checkIs(t, "unreachable, i32.add", only("unreachable i32.add", api.I32), api.OK)
	for _, typ := range valueTypes[1:] {
		checkIs(t, "unreachable, i32.add", only("unreachable i32.add", typ), api.ErrInvalid)
	}
}

// The world is valid, and so is nothing.
func TestWorld(t *testing.T) {
	checkIs(t, "nothing", api.Module{}, api.OK)
	checkIs(t, "the world", full(), api.OK)
}
