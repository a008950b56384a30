package inst_test

import (
	"strconv"
	"strings"

	"bodkin/api"
	"bodkin/ops"
	"bodkin/store"
)

// typeNames are the types as the tests' texts call them.
var typeNames = map[string]int{"i32": api.I32, "i64": api.I64, "f32": api.F32, "f64": api.F64, "v128": api.V128, "func": api.FuncRef, "extern": api.ExternRef}

// valueTypes are all of them, in one order.
var valueTypes = []int{api.I32, api.I64, api.F32, api.F64, api.V128, api.FuncRef, api.ExternRef}

// typesOf reads types.
func typesOf(text string) []int {
	var out []int
	for _, word := range strings.Fields(text) {
		t, ok := typeNames[word]
		if !ok {
			panic("no type: " + word)
		}
		out = append(out, t)
	}
	return out
}

// funcType reads a function's type: parameters, ->, results.
func funcType(text string) api.FuncType {
	params, results, ok := strings.Cut(text, "->")
	if !ok {
		panic("no type of a function: " + text)
	}
	return api.FuncType{Params: typesOf(params), Results: typesOf(results)}
}

// limits reads limits: the least, and behind a - the greatest, if there is one.
func limits(text string) api.Limits {
	least, most, has := strings.Cut(text, "-")
	l := api.Limits{Min: int(number(least)), Has: has}
	if has {
		l.Max = int(number(most))
	}
	return l
}

// tableType reads a table's type: that of its elements, and its limits.
func tableType(text string) api.TableType {
	ref, l, _ := strings.Cut(text, " ")
	return api.TableType{Ref: typesOf(ref)[0], L: limits(l)}
}

// globalType reads a global's type, behind mut if it can be changed.
func globalType(text string) api.GlobalType {
	typ, mut := strings.CutPrefix(text, "mut ")
	return api.GlobalType{Type: typesOf(typ)[0], Mut: mut}
}

// number reads a number, which may be negative.
func number(text string) uint64 {
	n, err := strconv.ParseUint(text, 0, 64)
	if err == nil {
		return n
	}
	i, err := strconv.ParseInt(text, 0, 64)
	if err != nil {
		panic(err)
	}
	return uint64(i)
}

// cut is a number of a type; of 32 bits if it has no more.
func cut(typ int, n uint64) uint64 {
	if typ == api.I32 || typ == api.F32 {
		return uint64(uint32(n))
	}
	return n
}

// values reads values: a type, a colon, and a number, two numbers of a vector, or null.
func values(text string) []api.Value {
	var out []api.Value
	for _, word := range strings.Fields(text) {
		name, word, _ := strings.Cut(word, ":")
		v := api.Value{Type: typesOf(name)[0]}
		if word == "null" {
			out = append(out, store.Zero(v.Type))
			continue
		}
		low, high, vector := strings.Cut(word, ",")
		v.Lo = cut(v.Type, number(low))
		if vector {
			v.Hi = number(high)
		}
		out = append(out, v)
	}
	return out
}

// constants are the types of the const instructions, by what stands behind them.
var constants = map[int]int{ops.ImmI32: api.I32, ops.ImmI64: api.I64, ops.ImmF32: api.F32, ops.ImmF64: api.F64, ops.ImmV128: api.V128}

// code reads instructions: their names, each with its operands behind a colon. Those nested in a block or a loop follow it, up to end.
func code(text string) []api.Instr {
	words := strings.Fields(text)
	l := sequenceOf(&words)
	if len(words) > 0 {
		panic("too much: " + text)
	}
	return l
}

func sequenceOf(words *[]string) []api.Instr {
	var l []api.Instr
	for len(*words) > 0 {
		word := (*words)[0]
		*words = (*words)[1:]
		if word == "end" {
			return l
		}
		in := instr(word)
		if ops.Imm(in.Op) == ops.ImmBlock {
			in.Body = sequenceOf(words)
		}
		l = append(l, in)
	}
	return l
}

// instr reads an instruction, without what is nested in it.
func instr(word string) api.Instr {
	name, text, has := strings.Cut(word, ":")
	op, ok := ops.Find(name)
	if !ok {
		panic("no instruction: " + word)
	}
	in := api.Instr{Op: op}
	if !has {
		return in
	}
	first, second, two := strings.Cut(text, ",")
	if typ, is := constants[ops.Imm(op)]; is {
		in.N = cut(typ, number(first))
		if two {
			in.H = number(second)
		}
		return in
	}
	if typ, is := typeNames[first]; is {
		in.A = typ
		return in
	}
	in.A = int(number(first))
	if two {
		in.B = int(number(second))
	}
	return in
}

// codes reads several sequences of instructions, with ; between them.
func codes(text string) [][]api.Instr {
	var out [][]api.Instr
	for part := range strings.SplitSeq(text, ";") {
		if strings.TrimSpace(part) != "" {
			out = append(out, code(part))
		}
	}
	return out
}
