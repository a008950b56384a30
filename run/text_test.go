package run_test

import (
	"strconv"
	"strings"

	"bodkin/api"
	"bodkin/ops"
	"bodkin/store"
)

// typeNames are the types as the tests' texts call them.
var typeNames = map[string]int{"i32": api.I32, "i64": api.I64, "f32": api.F32, "f64": api.F64, "v128": api.V128, "func": api.FuncRef, "extern": api.ExternRef}

// valueTypes are all of them, in one order.
var valueTypes = []int{api.I32, api.I64, api.F32, api.F64, api.V128, api.FuncRef, api.ExternRef}

// typesOf reads types.
func typesOf(text string) []int {
	var out []int
	for _, word := range strings.Fields(text) {
		t, ok := typeNames[word]
		if !ok {
			panic("no type: " + word)
		}
		out = append(out, t)
	}
	return out
}

// signature reads a function's type and its locals: parameters, ->, results, and behind a ; the locals.
func signature(text string) (api.FuncType, []int) {
	text, locals, _ := strings.Cut(text, ";")
	params, results, _ := strings.Cut(text, "->")
	return api.FuncType{Params: typesOf(params), Results: typesOf(results)}, typesOf(locals)
}

// number reads a number, which may be negative; cut to 32 bits for types that have no more.
func number(typ int, text string) uint64 {
	n, err := strconv.ParseUint(text, 0, 64)
	if err != nil {
		i, err := strconv.ParseInt(text, 0, 64)
		if err != nil {
			panic(err)
		}
		n = uint64(i)
	}
	if typ == api.I32 || typ == api.F32 {
		n = uint64(uint32(n))
	}
	return n
}

// valuesOf reads values: a type, a colon, and a number, two numbers of a vector, or null.
func valuesOf(text string) []api.Value {
	var out []api.Value
	for _, word := range strings.Fields(text) {
		name, word, _ := strings.Cut(word, ":")
		v := api.Value{Type: typesOf(name)[0]}
		if word == "null" {
			out = append(out, store.Zero(v.Type))
			continue
		}
		low, high, vector := strings.Cut(word, ",")
		v.Lo = number(v.Type, low)
		if vector {
			v.Hi = number(v.Type, high)
		}
		out = append(out, v)
	}
	return out
}

// words are what is left of a text of instructions.
type words struct{ left []string }

// code reads instructions: their names, each with its operands behind a colon. Those nested in a block follow it, up to else or end.
func code(text string) []api.Instr {
	w := &words{strings.Fields(text)}
	l, last := w.code()
	if last != "" {
		panic("too much " + last + ": " + text)
	}
	return l
}

func (w *words) code() (l []api.Instr, last string) {
	for len(w.left) > 0 {
		word := w.left[0]
		w.left = w.left[1:]
		if word == "else" || word == "end" {
			return l, word
		}
		in := instr(word)
		if ops.Imm(in.Op) == ops.ImmBlock {
			if in.Body, last = w.code(); last == "else" {
				in.Other = true
				in.Else, last = w.code()
			}
			if last != "end" {
				panic("no end of " + word)
			}
		}
		l = append(l, in)
	}
	return l, ""
}

// operandsOf reads numbers and types.
func operandsOf(text string) (out []int) {
	for _, word := range strings.Split(text, ",") {
		n, ok := typeNames[word]
		if !ok {
			n = int(number(api.I64, word))
		}
		out = append(out, n)
	}
	return out
}

// constTypes are those of the const instructions, by what stands behind them.
var constTypes = map[int]int{ops.ImmI32: api.I32, ops.ImmI64: api.I64, ops.ImmF32: api.F32, ops.ImmF64: api.F64, ops.ImmV128: api.V128}

// instr reads an instruction, without what is nested in it.
func instr(word string) api.Instr {
	name, text, has := strings.Cut(word, ":")
	op, ok := ops.Find(name)
	if !ok {
		panic("no instruction: " + word)
	}
	in := api.Instr{Op: op}
	if !has {
		return in
	}
	if typ, is := constTypes[ops.Imm(op)]; is {
		low, high, _ := strings.Cut(text+",0", ",")
		in.N = number(typ, low)
		if typ == api.V128 {
			in.H = number(typ, strings.TrimSuffix(high, ",0"))
		}
		return in
	}
	l := operandsOf(text)
	switch ops.Imm(op) {
	case ops.ImmBlock:
		in.A, in.B = 2, l[0]
		if _, is := typeNames[text]; is {
			in.A = 1
		}
	case ops.ImmShuffle:
		in.L = l
	case ops.ImmTable:
		in.A, in.L = l[len(l)-1], l[:len(l)-1]
	case ops.ImmMemLane:
		in.A, in.B, in.L = l[0], l[1], l[2:]
	case ops.ImmNone:
		// Of the two numbers with the name select, Find has told the smaller one.
		in.Op, in.L = op+1, l
	case ops.ImmIndirect, ops.ImmElemTab, ops.ImmTabs, ops.ImmMem:
		in.A, in.B = l[0], l[1]
	default:
		in.A = l[0]
	}
	return in
}

// tell tells instructions in the tests' notation.
func tell(l []api.Instr) string {
	text := ""
	for _, in := range l {
		text += ops.Name(in.Op) + ":" + strconv.Itoa(in.A) + "," + strconv.Itoa(in.B) + "," + strconv.FormatUint(in.N, 10)
		for _, n := range in.L {
			text += "," + strconv.Itoa(n)
		}
		text += " "
		if ops.Imm(in.Op) == ops.ImmBlock {
			text += tell(in.Body)
			if in.Other {
				text += "else " + tell(in.Else)
			}
			text += "end "
		}
	}
	return text
}
