package run_test

import (
	"slices"
	"strings"

	"bodkin/api"
	"bodkin/ops"
)

// sequence is numbers without a pattern, the same ones each time.
type sequence uint64

func (s *sequence) next(n int) int {
	*s += 0x9e3779b97f4a7c15
	z := uint64(*s)
	z = (z ^ z>>30) * 0xbf58476d1ce4e5b9
	z = (z ^ z>>27) * 0x94d049bb133111eb
	return int((z ^ z>>31) % uint64(n))
}

// one is an element of a list.
func one[T any](s *sequence, l []T) T { return l[s.next(len(l))] }

// some is up to so many elements of a list, which may occur more than once.
func some[T any](s *sequence, l []T, most int) []T {
	var out []T
	for range s.next(most + 1) {
		out = append(out, one(s, l))
	}
	return out
}

// only are the instructions for which something is so.
func only(is func(op int) bool) []int {
	return slices.DeleteFunc(ops.All(), func(op int) bool { return !is(op) })
}

// Instructions, by what they are for. None of known is an unreachable, which ends too much.
var (
	known   = only(func(op int) bool { return op != 0 })
	special = only(func(op int) bool { _, _, fixed := ops.Sign(op); return !fixed && op != 0 })
	objects = only(func(op int) bool {
		return ops.Align(op) >= 0 || op == 0x3f || op == 0x40 || op >= 0xfc08 && op < 0xfd00 || op == 0x25 || op == 0x26
	})
	control = []int{0x02, 0x03, 0x04, 0x04, 0x0c, 0x0d, 0x0d, 0x0e, 0x10, 0x11}
)

// rows are what the instructions without fixed types take and leave, a letter for each type or list of types: i I32; n, s that of the select; l, g, t that of the local, of the global, of the table; a A; p, r those of the function; P, R those of the type A; @ those of the label; F those of the function around; b, B those of the block; * control is transferred.
var rows = map[string]string{
	"unreachable": "-> *", "br": "@ -> *", "br_if": "@i -> @", "br_table": "@i -> *", "return": "F -> *",
	"block": "b -> B", "loop": "b -> B", "if": "bi -> B",
	"call": "p -> r", "call_indirect": "Pi -> R", "drop": "n ->", "select": "nni -> n", "select:": "ssi -> s",
	"local.get": "-> l", "local.set": "l ->", "local.tee": "l -> l", "global.get": "-> g", "global.set": "g ->",
	"table.get": "i -> t", "table.set": "it ->", "table.grow": "ti -> i", "table.fill": "iti ->",
	"ref.null": "-> a", "ref.is_null": "e -> i",
}

// The types of the globals and of the tables of world.
var (
	globalTypes = append([]int{api.I32, api.I64}, valueTypes...)
	tableTypes  = []int{api.ExternRef, api.FuncRef, api.ExternRef, api.FuncRef}
)

// maker makes functions of world that are valid.
type maker struct {
	sequence
	m       api.Module
	locals  []int
	results []int
	labels  [][]int // the innermost one last
	number  int     // the type of numbers that a drop or a select takes
}

// functionType is that of a function of the module.
func (g *maker) functionType(i int) api.FuncType {
	if i < tested {
		return g.m.Types[[]int{7, 1}[i]]
	}
	return g.m.Types[g.m.Funcs[i-tested].Type]
}

// blockType is what a block takes and leaves.
func (g *maker) blockType(in api.Instr) api.FuncType {
	switch in.A {
	case 1:
		return api.FuncType{Results: []int{in.B}}
	case 2:
		return g.m.Types[in.B]
	}
	return api.FuncType{}
}

// types are those of a letter.
func (g *maker) types(letter rune, in api.Instr) []int {
	switch letter {
	case 'n':
		return []int{g.number}
	case 's':
		return in.L
	case 'l':
		return []int{g.locals[in.A]}
	case 'g':
		return []int{globalTypes[in.A]}
	case 't':
		return []int{tableTypes[in.A]}
	case 'e':
		return []int{api.ExternRef}
	case 'a':
		return []int{in.A}
	case 'p':
		return g.functionType(in.A).Params
	case 'r':
		return g.functionType(in.A).Results
	case 'P':
		return g.m.Types[in.A].Params
	case 'R':
		return g.m.Types[in.A].Results
	case '@':
		return g.labels[len(g.labels)-1-in.A]
	case 'F':
		return g.results
	case 'b':
		return g.blockType(in).Params
	case 'B':
		return g.blockType(in).Results
	}
	return []int{api.I32}
}

// sign is what an instruction takes and leaves there, and whether it transfers control.
func (g *maker) sign(in api.Instr) (takes, leaves []int, transfers bool) {
	if takes, leaves, fixed := ops.Sign(in.Op); fixed {
		return takes, leaves, false
	}
	name := ops.Name(in.Op)
	if in.Op == 0x1c {
		name = "select:"
	}
	left, right, _ := strings.Cut(rows[name], "->")
	for _, letter := range strings.TrimSpace(left) {
		takes = append(takes, g.types(letter, in)...)
	}
	right = strings.TrimSpace(right)
	if right == "*" {
		return takes, nil, true
	}
	for _, letter := range right {
		leaves = append(leaves, g.types(letter, in)...)
	}
	return takes, leaves, false
}

// module makes world with most of its functions' bodies made anew.
func (g *maker) module(depth int) api.Module {
	m := world("->", "")
	m.Types[0] = api.FuncType{Params: some(&g.sequence, valueTypes, 3), Results: some(&g.sequence, valueTypes, 3)}
	g.m = m
	for i := range m.Funcs {
		if i > 0 && g.next(3) == 0 {
			continue
		}
		f := m.Types[m.Funcs[i].Type]
		locals := some(&g.sequence, valueTypes, 4)
		g.locals, g.results, g.labels = slices.Concat(f.Params, locals), f.Results, [][]int{f.Results}
		m.Funcs[i].Locals = locals
		m.Funcs[i].Body = g.code(nil, g.results, depth)
	}
	return m
}

// code makes instructions that begin with types and leave others. Now and then they leave more behind where control is transferred.
func (g *maker) code(begin, leaves []int, depth int) []api.Instr {
	var out []api.Instr
	stack, open := slices.Clone(begin), false
	for range g.next(9) {
		in := g.instr(depth)
		takes, puts, transfers := g.sign(in)
		if n := len(stack) - len(takes); n >= 0 && slices.Equal(stack[n:], takes) && g.next(2) == 0 {
			stack = stack[:n]
		} else {
			out = append(out, g.operands(in, takes)...)
		}
		out = append(out, in)
		stack = append(stack, puts...)
		if transfers {
			stack, open = nil, true
		}
	}
	if slices.Equal(stack, leaves) && g.next(2) == 0 {
		return out
	}
	if g.next(4) == 0 {
		out = append(out, g.values(g.labels[0])...)
		return append(out, api.Instr{Op: 0x0c, A: len(g.labels) - 1})
	}
	for range stack {
		out = append(out, api.Instr{Op: 0x1a})
	}
	if open {
		leaves = leaves[g.next(len(leaves)+1):]
	}
	return append(out, g.values(leaves)...)
}

// operands makes instructions that leave an instruction's operands.
func (g *maker) operands(in api.Instr, takes []int) []api.Instr {
	out := g.values(takes)
	if _, _, fixed := ops.Sign(in.Op); fixed && len(takes) == 3 && in.Op < 0xfd00 && g.next(4) > 0 {
		// Most ranges would be beyond the end.
		for i := range out {
			out[i] = api.Instr{Op: 0x41, N: uint64(g.next(4))}
		}
	}
	// Most numbers are no elements of the type that a call asks for.
	if at, ok := map[int]uint64{1: 1, 4: 2, 5: 3, 0: 4, 3: 6}[in.A]; ok && in.Op == 0x11 && g.next(4) > 0 {
		out[len(out)-1] = api.Instr{Op: 0x41, N: at}
	}
	return out
}

// numbers are some about the ends of memories, tables and segments, and of 32 bits.
var numbers = []uint64{0, 0, 1, 1, 2, 2, 3, 4, 5, 6, 7, 8, 9, 12, 16, 24, 65520, 65528, 65535, 65536, 65537, 131072, 1 << 31, 1<<32 - 1}

// values makes instructions that leave types, one for each.
func (g *maker) values(types []int) []api.Instr {
	var out []api.Instr
	for _, typ := range types {
		out = append(out, g.value(typ))
	}
	return out
}

// value makes an instruction that leaves a type.
func (g *maker) value(typ int) api.Instr {
	in := zero(typ)[0]
	local, global := slices.Index(g.locals, typ), 2+slices.Index(valueTypes, typ)
	kind := g.next(6)
	switch {
	case kind == 0 && local >= 0:
		return api.Instr{Op: 0x20, A: local}
	case kind == 1 || kind == 2 && typ == api.ExternRef:
		return api.Instr{Op: 0x23, A: global}
	case kind > 2 && typ == api.FuncRef:
		return api.Instr{Op: 0xd2, A: g.next(tested + len(g.m.Funcs))}
	case typ == api.I32 && g.next(2) == 0:
		in.N = one(&g.sequence, numbers)
	case typ == api.I32:
		in.N = uint64(g.next(70))
	case typ == api.F32:
		in.N = uint64(g.next(1 << 32))
	case typ != api.FuncRef && typ != api.ExternRef:
		in.N = uint64(g.next(1<<32)) << 32 >> g.next(64)
	}
	if typ == api.V128 {
		in.H = uint64(g.next(1 << 62))
	}
	return in
}

// instr makes an instruction that is valid where its operands are.
func (g *maker) instr(depth int) api.Instr {
	g.number = one(&g.sequence, valueTypes[:5])
	op := one(&g.sequence, one(&g.sequence, [][]int{known, special, objects, control}))
	if g.next(200) == 0 {
		op = 0
	}
	in := api.Instr{Op: op}
	switch kind := ops.Imm(op); kind {
	case ops.ImmBlock:
		if depth == 0 {
			return api.Instr{Op: 0x01}
		}
		g.block(&in, depth-1)
	case ops.ImmLabel, ops.ImmTable:
		g.branch(&in)
	case ops.ImmLocal:
		if len(g.locals) == 0 {
			return api.Instr{Op: 0x01}
		}
		in.A = g.next(len(g.locals))
	case ops.ImmSelect:
		in.L = []int{one(&g.sequence, valueTypes)}
	case ops.ImmRef:
		in.A = one(&g.sequence, valueTypes[5:])
	case ops.ImmIndirect:
		in.A, in.B = g.next(len(g.m.Types)), one(&g.sequence, []int{1, 1, 1, 1, 1, 3})
	case ops.ImmFunc:
		in.A = g.next(tested + len(g.m.Funcs))
	case ops.ImmGlobal:
		in.A = g.next(len(globalTypes))
		if op == 0x24 {
			// The first one is not mutable.
			in.A = max(1, in.A)
		}
	default:
		g.immediates(&in)
	}
	return in
}

// immediates gives an instruction numbers that are valid, where they are others than in instr.
func (g *maker) immediates(in *api.Instr) {
	offset := g.next(40)
	if g.next(10) == 0 {
		offset = int(one(&g.sequence, numbers))
	}
	switch ops.Imm(in.Op) {
	case ops.ImmTab:
		in.A = g.next(4)
	case ops.ImmTabs:
		in.A = g.next(4)
		in.B = (in.A + 2*g.next(2)) % 4
	case ops.ImmElemTab:
		in.A = g.next(4)
		in.B = [][]int{{1, 3}, {0, 2}, {1, 3}, {1, 3}}[in.A][g.next(2)]
	case ops.ImmElem:
		in.A = g.next(4)
	case ops.ImmData, ops.ImmDataMem:
		in.A = g.next(3)
	case ops.ImmMem:
		in.A, in.B = g.next(ops.Align(in.Op)+1), offset
	case ops.ImmMemLane:
		in.A, in.B, in.L = g.next(ops.Align(in.Op)+1), offset, []int{g.next(ops.Lanes(in.Op))}
	case ops.ImmLane:
		in.A = g.next(ops.Lanes(in.Op))
	case ops.ImmShuffle:
		for range 16 {
			in.L = append(in.L, g.next(32))
		}
	case ops.ImmI32, ops.ImmI64, ops.ImmF32, ops.ImmF64, ops.ImmV128:
		in.N, in.H = g.value(constTypes[ops.Imm(in.Op)]).N, 0
	}
}

// branch gives a jump its labels.
func (g *maker) branch(in *api.Instr) {
	in.A = g.next(len(g.labels))
	if ops.Imm(in.Op) == ops.ImmLabel {
		return
	}
	var like []int
	for i := range g.labels {
		if slices.Equal(g.labels[len(g.labels)-1-i], g.labels[len(g.labels)-1-in.A]) {
			like = append(like, i)
		}
	}
	in.L = some(&g.sequence, like, 4)
}

// block gives a block, a loop or an if its type, and what is nested in it.
func (g *maker) block(in *api.Instr, depth int) {
	number := g.number
	in.A = g.next(3)
	switch in.A {
	case 1:
		in.B = one(&g.sequence, valueTypes)
	case 2:
		in.B = g.next(len(g.m.Types))
	}
	f := g.blockType(*in)
	label := f.Results
	if in.Op == 0x03 {
		label = f.Params
	}
	g.labels = append(g.labels, label)
	in.Body = g.code(f.Params, f.Results, depth)
	if in.Op == 0x04 && (!slices.Equal(f.Params, f.Results) || g.next(2) == 0) {
		in.Other, in.Else = true, g.code(f.Params, f.Results, depth)
	}
	g.labels = g.labels[:len(g.labels)-1]
	g.number = number
}
