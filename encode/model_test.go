package encode_test

import (
	"encoding/binary"
	"math/big"
	"slices"
	"strings"

	"bodkin/api"
	"bodkin/ops"
)

// modelGroups is a number in so many groups of 7 bits, the lowest one first.
func modelGroups(n *big.Int, count int) string {
	out := make([]byte, count)
	for i := range out {
		group := new(big.Int).Rsh(n, uint(7*i))
		out[i] = byte(group.And(group, big.NewInt(127)).Int64())
		if i < count-1 {
			out[i] += 128
		}
	}
	return string(out)
}

// modelU is u of the document.
func modelU(n int) string {
	big := big.NewInt(int64(n))
	return modelGroups(big, max(1, (big.BitLen()+6)/7))
}

// modelS is s of the document: as few groups as hold the number and its sign.
func modelS(n int64) string {
	count := 1
	for count < 10 && (n < -(1<<(7*count-1)) || n >= 1<<(7*count-1)) {
		count++
	}
	return modelGroups(big.NewInt(n), count)
}

func modelName(s string) string { return modelU(len(s)) + s }

// modelList is how many there are, and all of them.
func modelList(each []string) string { return modelU(len(each)) + strings.Join(each, "") }

// mapped is a text for each element of a list.
func mapped[T any](l []T, one func(T) string) []string {
	var out []string
	for _, x := range l {
		out = append(out, one(x))
	}
	return out
}

func modelByte(n int) string { return string([]byte{byte(n)}) }

// operands is P10.1's table, a letter for each part: a, b: u of A, of B; A: the byte A; l: the list of L, each as u; t: the list of L; r: the bytes of L; i, I: N as a signed number; 4, 8: the bytes of N; h: those of H; 0: a byte.
var operands = map[int]string{
	ops.ImmNone:     "",
	ops.ImmLabel:    "a",
	ops.ImmFunc:     "a",
	ops.ImmLocal:    "a",
	ops.ImmGlobal:   "a",
	ops.ImmTab:      "a",
	ops.ImmData:     "a",
	ops.ImmElem:     "a",
	ops.ImmTable:    "la",
	ops.ImmIndirect: "ab",
	ops.ImmElemTab:  "ab",
	ops.ImmTabs:     "ab",
	ops.ImmMem:      "ab",
	ops.ImmMemLane:  "abr",
	ops.ImmSelect:   "t",
	ops.ImmZero:     "0",
	ops.ImmZeros:    "00",
	ops.ImmDataMem:  "a0",
	ops.ImmI32:      "i",
	ops.ImmI64:      "I",
	ops.ImmF32:      "4",
	ops.ImmF64:      "8",
	ops.ImmV128:     "8h",
	ops.ImmRef:      "A",
	ops.ImmLane:     "A",
	ops.ImmShuffle:  "r",
}

// modelOperand is one letter of the table.
func modelOperand(letter rune, in api.Instr) string {
	switch letter {
	case 'a':
		return modelU(in.A)
	case 'b':
		return modelU(in.B)
	case 'A':
		return modelByte(in.A)
	case 'l':
		return modelList(mapped(in.L, modelU))
	case 't':
		return modelList(mapped(in.L, modelByte))
	case 'r':
		return strings.Join(mapped(in.L, modelByte), "")
	case 'i':
		return modelS(int64(int32(in.N)))
	case 'I':
		return modelS(int64(in.N))
	case '4':
		return string(binary.LittleEndian.AppendUint32(nil, uint32(in.N)))
	case '8':
		return string(binary.LittleEndian.AppendUint64(nil, in.N))
	case 'h':
		return string(binary.LittleEndian.AppendUint64(nil, in.H))
	}
	return "\x00"
}

// modelOp is an instruction's number.
func modelOp(op int) string {
	if op < 256 {
		return modelByte(op)
	}
	return modelByte(op/256) + modelU(op%256)
}

func modelBlock(in api.Instr) string {
	text := modelOp(in.Op) + map[int]string{0: "\x40", 1: modelByte(in.B), 2: modelS(int64(in.B))}[in.A]
	text += strings.Join(mapped(in.Body, modelInstr), "")
	if in.Other {
		text += "\x05" + strings.Join(mapped(in.Else, modelInstr), "")
	}
	return text + "\x0b"
}

func modelInstr(in api.Instr) string {
	if ops.Imm(in.Op) == ops.ImmBlock {
		return modelBlock(in)
	}
	text := modelOp(in.Op)
	for _, letter := range operands[ops.Imm(in.Op)] {
		text += modelOperand(letter, in)
	}
	return text
}

func modelCode(l []api.Instr) string { return strings.Join(mapped(l, modelInstr), "") + "\x0b" }

func modelLimits(l api.Limits) string {
	if l.Has {
		return "\x01" + modelU(l.Min) + modelU(l.Max)
	}
	return "\x00" + modelU(l.Min)
}

func modelTable(t api.TableType) string { return modelByte(t.Ref) + modelLimits(t.L) }

func modelGlobal(g api.GlobalType) string {
	return modelByte(g.Type) + map[bool]string{true: "\x01", false: "\x00"}[g.Mut]
}

func modelFuncType(f api.FuncType) string {
	return "\x60" + modelList(mapped(f.Params, modelByte)) + modelList(mapped(f.Results, modelByte))
}

func modelImport(i api.Import) string {
	text := modelName(i.Module) + modelName(i.Name) + modelByte(i.Kind)
	return text + [...]func() string{
		func() string { return modelU(i.Type) },
		func() string { return modelTable(i.Table) },
		func() string { return modelLimits(i.Mem) },
		func() string { return modelGlobal(i.Global) },
	}[i.Kind]()
}

// modelFunc is a function; its locals are cut off run by run, from the last one.
func modelFunc(c api.Code) string {
	var runs []string
	for l := c.Locals; len(l) > 0; {
		count := len(l)
		for start := range l {
			if !slices.ContainsFunc(l[start:], func(t int) bool { return t != l[len(l)-1] }) {
				count = len(l) - start
				break
			}
		}
		runs = append(runs, modelU(count)+modelByte(l[len(l)-1]))
		l = l[:len(l)-count]
	}
	slices.Reverse(runs)
	text := modelList(runs) + modelCode(c.Body)
	return modelU(len(text)) + text
}

// modelElem is a segment of references: its beginnings are written out, in function form and otherwise.
func modelElem(e api.Elem) string {
	short := e.Ref == api.FuncRef
	for _, l := range e.Init {
		short = short && len(l) == 1 && l[0].Op == 0xd2
	}
	offset, table := modelCode(e.Offset), modelU(e.Table)
	if short {
		items := modelList(mapped(e.Init, func(l []api.Instr) string { return modelU(l[0].A) }))
		if e.Mode == api.Active && e.Table == 0 {
			return "\x00" + offset + items
		}
		return [...]string{"\x02" + table + offset + "\x00", "\x01\x00", "\x03\x00"}[e.Mode] + items
	}
	items := modelList(mapped(e.Init, modelCode))
	if e.Mode == api.Active && e.Table == 0 && e.Ref == api.FuncRef {
		return "\x04" + offset + items
	}
	return [...]string{"\x06" + table + offset, "\x05", "\x07"}[e.Mode] + modelByte(e.Ref) + items
}

func modelData(d api.Data) string {
	text := modelName(string(d.Bytes))
	switch {
	case d.Mode == api.Passive:
		return "\x01" + text
	case d.Mem != 0:
		return "\x02" + modelU(d.Mem) + modelCode(d.Offset) + text
	}
	return "\x00" + modelCode(d.Offset) + text
}

// modelModule is a module's bytes: its sections are found by their numbers.
func modelModule(m api.Module) string {
	lists := map[int][]string{
		1:  mapped(m.Types, modelFuncType),
		2:  mapped(m.Imports, modelImport),
		3:  mapped(m.Funcs, func(c api.Code) string { return modelU(c.Type) }),
		4:  mapped(m.Tables, modelTable),
		5:  mapped(m.Mems, modelLimits),
		6:  mapped(m.Globals, func(v api.Var) string { return modelGlobal(v.Type) + modelCode(v.Init) }),
		7:  mapped(m.Exports, func(x api.Export) string { return modelName(x.Name) + modelByte(x.Kind) + modelU(x.Index) }),
		9:  mapped(m.Elems, modelElem),
		10: mapped(m.Funcs, modelFunc),
		11: mapped(m.Datas, modelData),
	}
	text := "\x00asm\x01\x00\x00\x00"
	for _, number := range []int{1, 2, 3, 4, 5, 6, 7, 8, 9, 12, 10, 11} {
		contents := ""
		switch {
		case number == 8 && m.Start > 0:
			contents = modelU(m.Start - 1)
		case number == 12 && m.Count:
			contents = modelU(len(m.Datas))
		case len(lists[number]) > 0:
			contents = modelList(lists[number])
		}
		if contents != "" {
			text += modelByte(number) + modelName(contents)
		}
	}
	return text
}
