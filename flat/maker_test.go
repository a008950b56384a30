package flat_test

import (
	"slices"
	"strings"

	"bodkin/api"
	"bodkin/ops"
)

// pattern is numbers without a pattern, the same ones each time.
type pattern uint64

func (s *pattern) next(n int) int {
	*s += 0x9e3779b97f4a7c15
	return int(mix(uint64(*s)) % uint64(n))
}

// mix is a number that hangs on all bits of another one.
func mix(z uint64) uint64 {
	z = (z ^ z>>30) * 0xbf58476d1ce4e5b9
	z = (z ^ z>>27) * 0x94d049bb133111eb
	return z ^ z>>31
}

// one is an element of a list.
func one[T any](s *pattern, l []T) T { return l[s.next(len(l))] }

// some is up to so many elements of a list, which may occur more than once.
func some[T any](s *pattern, l []T, most int) []T {
	var out []T
	for range s.next(most + 1) {
		out = append(out, one(s, l))
	}
	return out
}

// known is all instructions.
var known = ops.All()

// special are those whose types are not fixed.
var special = slices.DeleteFunc(ops.All(), func(op int) bool { _, _, fixed := ops.Sign(op); return fixed })

// control is those that have labels, the more usual ones more often.
var control = []int{0x02, 0x03, 0x04, 0x04, 0x0c, 0x0d, 0x0d, 0x0e}

// rows are what the instructions without fixed types take and leave, a letter for each type or list of types: i I32; n, s that of the select; l, g, t that of the local, of the global, of the table; a A; p, r those of the function; P, R those of the type A; @ those of the label; F those of the function around; b, B those of the block; * control is transferred.
var rows = map[string]string{
	"unreachable": "-> *", "br": "@ -> *", "br_if": "@i -> @", "br_table": "@i -> *", "return": "F -> *",
	"block": "b -> B", "loop": "b -> B", "if": "bi -> B",
	"call": "p -> r", "call_indirect": "Pi -> R", "drop": "n ->", "select": "nni -> n", "select:": "ssi -> s",
	"local.get": "-> l", "local.set": "l ->", "local.tee": "l -> l", "global.get": "-> g", "global.set": "g ->",
	"table.get": "i -> t", "table.set": "it ->", "table.grow": "ti -> i", "table.fill": "iti ->",
	"ref.null": "-> a", "ref.is_null": "t -> i",
}

// setting is a module, and where in its function an instruction stands.
type setting struct {
	m       api.Module
	locals  []int
	results []int
	labels  [][]int // the innermost one last
	number  int     // the type of numbers that a drop or a select takes
}

// at is the setting at the beginning of a module's own function.
func at(m api.Module, i int) setting {
	f := m.Types[m.Funcs[i].Type]
	return setting{m: m, locals: slices.Concat(f.Params, m.Funcs[i].Locals), results: f.Results, labels: [][]int{f.Results}, number: api.I64}
}

// functionType is that of a function of the module, the imported ones first.
func (s *setting) functionType(i int) api.FuncType {
	for _, x := range s.m.Imports {
		if x.Kind == api.Func {
			if i == 0 {
				return s.m.Types[x.Type]
			}
			i--
		}
	}
	return s.m.Types[s.m.Funcs[i].Type]
}

// globals are the types of the module's globals, and tables of its tables: the imported one first.
func (s *setting) globals() []int {
	out := []int{s.m.Imports[0].Global.Type}
	for _, g := range s.m.Globals {
		out = append(out, g.Type.Type)
	}
	return out
}

func (s *setting) tables() []int {
	out := []int{s.m.Imports[2].Table.Ref}
	for _, t := range s.m.Tables {
		out = append(out, t.Ref)
	}
	return out
}

// blockType is what a block takes and leaves.
func (s *setting) blockType(in api.Instr) api.FuncType {
	return [...]func() api.FuncType{
		func() api.FuncType { return api.FuncType{} },
		func() api.FuncType { return api.FuncType{Results: []int{in.B}} },
		func() api.FuncType { return s.m.Types[in.B] },
	}[in.A]()
}

// types are those of a letter.
func (s *setting) types(letter rune, in api.Instr) []int {
	switch letter {
	case 'n':
		return []int{s.number}
	case 's':
		return in.L
	case 'l':
		return []int{s.locals[in.A]}
	case 'g':
		return []int{s.globals()[in.A]}
	case 't':
		if ops.Name(in.Op) == "ref.is_null" {
			return []int{api.ExternRef}
		}
		return []int{s.tables()[in.A]}
	case 'a':
		return []int{in.A}
	case 'p':
		return s.functionType(in.A).Params
	case 'r':
		return s.functionType(in.A).Results
	case 'P':
		return s.m.Types[in.A].Params
	case 'R':
		return s.m.Types[in.A].Results
	case '@':
		return s.labels[len(s.labels)-1-in.A]
	case 'F':
		return s.results
	case 'b':
		return s.blockType(in).Params
	case 'B':
		return s.blockType(in).Results
	}
	return []int{api.I32}
}

// sign is what an instruction takes and leaves there, and whether it transfers control.
func (s *setting) sign(in api.Instr) (takes, leaves []int, transfers bool) {
	if takes, leaves, fixed := ops.Sign(in.Op); fixed {
		return takes, leaves, false
	}
	name := ops.Name(in.Op)
	if in.Op == 0x1c {
		name = "select:"
	}
	left, right, _ := strings.Cut(rows[name], "->")
	for _, letter := range strings.TrimSpace(left) {
		takes = append(takes, s.types(letter, in)...)
	}
	right = strings.TrimSpace(right)
	if right == "*" {
		return takes, nil, true
	}
	for _, letter := range right {
		leaves = append(leaves, s.types(letter, in)...)
	}
	return takes, leaves, false
}

// maker makes functions for the module of world that are valid.
type maker struct {
	pattern
	setting
}

// function makes world, with a function of its own.
func (g *maker) function(depth int) api.Module {
	m := world("->", "")
	m.Types[0] = api.FuncType{Params: some(&g.pattern, valueTypes, 3), Results: some(&g.pattern, valueTypes, 3)}
	m.Funcs[0].Locals = some(&g.pattern, valueTypes, 3)
	g.setting = at(m, 0)
	m.Funcs[0].Body = g.code(nil, g.results, depth)
	return m
}

// code makes instructions that begin with types and leave others. Now and then they leave more behind where control is transferred.
func (g *maker) code(begin, leaves []int, depth int) []api.Instr {
	var out []api.Instr
	stack, open := slices.Clone(begin), false
	for range g.next(7) {
		in := g.instr(depth)
		takes, puts, transfers := g.sign(in)
		if n := len(stack) - len(takes); n >= 0 && slices.Equal(stack[n:], takes) && g.next(2) == 0 {
			stack = stack[:n]
		} else {
			out = append(out, values(takes)...)
		}
		out = append(out, in)
		stack = append(stack, puts...)
		if transfers {
			stack, open = nil, true
		}
	}
	if slices.Equal(stack, leaves) && g.next(2) == 0 {
		return out
	}
	if g.next(4) == 0 {
		out = append(out, values(g.labels[0])...)
		return append(out, api.Instr{Op: 0x0c, A: len(g.labels) - 1})
	}
	for range stack {
		out = append(out, api.Instr{Op: 0x1a})
	}
	if open {
		leaves = leaves[g.next(len(leaves)+1):]
	}
	return append(out, values(leaves)...)
}

// values makes instructions that leave types.
func values(types []int) []api.Instr {
	var out []api.Instr
	for _, typ := range types {
		out = append(out, zero(typ)...)
	}
	return out
}

// instr makes an instruction that is valid where its operands are.
func (g *maker) instr(depth int) api.Instr {
	g.number = one(&g.pattern, valueTypes[:5])
	op := one(&g.pattern, one(&g.pattern, [][]int{known, special, special, control}))
	in := api.Instr{Op: op}
	switch kind := ops.Imm(op); kind {
	case ops.ImmBlock:
		if depth == 0 {
			return api.Instr{Op: 0x01}
		}
		g.block(&in, depth-1)
	case ops.ImmLabel, ops.ImmTable:
		g.branch(&in)
	case ops.ImmLocal:
		if len(g.locals) == 0 {
			return api.Instr{Op: 0x01}
		}
		in.A = g.next(len(g.locals))
	case ops.ImmSelect:
		in.L = []int{one(&g.pattern, valueTypes)}
	case ops.ImmRef:
		in.A = one(&g.pattern, valueTypes[5:])
	case ops.ImmIndirect:
		in.A, in.B = g.next(len(g.m.Types)), 1
	case ops.ImmFunc:
		in.A = g.next(2 + len(g.m.Funcs))
	case ops.ImmGlobal:
		// The first one is not mutable.
		in.A = 1 + g.next(len(g.globals())-1)
	default:
		g.operands(&in)
	}
	return in
}

// operands gives an instruction numbers that are valid, where they are others than in instr.
func (g *maker) operands(in *api.Instr) {
	switch ops.Imm(in.Op) {
	case ops.ImmTab:
		in.A = g.next(3)
	case ops.ImmTabs:
		in.A, in.B = 2, g.next(2)*2
	case ops.ImmElemTab:
		in.A = g.next(2)
		in.B = 1 + in.A
	case ops.ImmElem, ops.ImmData, ops.ImmDataMem:
		in.A = g.next(2)
	case ops.ImmMem:
		in.A, in.B = g.next(ops.Align(in.Op)+1), g.next(99)
	case ops.ImmMemLane:
		in.A, in.B, in.L = g.next(ops.Align(in.Op)+1), g.next(99), []int{g.next(ops.Lanes(in.Op))}
	case ops.ImmLane:
		in.A = g.next(ops.Lanes(in.Op))
	case ops.ImmShuffle:
		for range 16 {
			in.L = append(in.L, g.next(32))
		}
	case ops.ImmI32, ops.ImmF32:
		in.N = uint64(g.next(1 << 32))
	case ops.ImmI64, ops.ImmF64:
		in.N = uint64(g.next(1 << 62))
	case ops.ImmV128:
		in.N, in.H = uint64(g.next(1<<62)), uint64(g.next(1<<62))
	}
}

// branch gives a jump its labels.
func (g *maker) branch(in *api.Instr) {
	in.A = g.next(len(g.labels))
	if ops.Imm(in.Op) == ops.ImmLabel {
		return
	}
	var like []int
	for i := range g.labels {
		if slices.Equal(g.labels[len(g.labels)-1-i], g.labels[len(g.labels)-1-in.A]) {
			like = append(like, i)
		}
	}
	in.L = some(&g.pattern, like, 4)
}

// block gives a block, a loop or an if its type, and what is nested in it.
func (g *maker) block(in *api.Instr, depth int) {
	number := g.number
	in.A = g.next(3)
	switch in.A {
	case 1:
		in.B = one(&g.pattern, valueTypes)
	case 2:
		in.B = g.next(len(g.m.Types))
	}
	f := g.blockType(*in)
	label := f.Results
	if in.Op == 0x03 {
		label = f.Params
	}
	g.labels = append(g.labels, label)
	in.Body = g.code(f.Params, f.Results, depth)
	if in.Op == 0x04 && (!slices.Equal(f.Params, f.Results) || g.next(2) == 0) {
		in.Other, in.Else = true, g.code(f.Params, f.Results, depth)
	}
	g.labels = g.labels[:len(g.labels)-1]
	g.number = number
}
