package valid_test

import (
	"slices"
	"strings"

	"bodkin/api"
	"bodkin/ops"
	"bodkin/shape"
)

// unknown is the model's type of what is not on an open stack.
const unknown = -1

// control is a block that has not ended.
type control struct {
	in         api.Instr
	begin, end []int
	height     int
	open       bool
}

// model follows a function as a list of instructions without nesting. What is not valid ends it by a panic.
type model struct {
	m       *api.Module
	locals  []int
	results []int
	stack   []int
	blocks  []control
}

func (m *model) need(is bool) {
	if !is {
		panic(api.ErrInvalid)
	}
}

// imported is what is imported of a kind, each one told by a function.
func imported[T any](m *api.Module, kind int, one func(api.Import) T) []T {
	var out []T
	for _, i := range m.Imports {
		if i.Kind == kind {
			out = append(out, one(i))
		}
	}
	return out
}

func funcTypes(m *api.Module) []int {
	out := imported(m, api.Func, func(i api.Import) int { return i.Type })
	for _, c := range m.Funcs {
		out = append(out, c.Type)
	}
	return out
}

func tablesOf(m *api.Module) []api.TableType {
	return append(imported(m, api.Table, func(i api.Import) api.TableType { return i.Table }), m.Tables...)
}

func memsOf(m *api.Module) []api.Limits {
	return append(imported(m, api.Mem, func(i api.Import) api.Limits { return i.Mem }), m.Mems...)
}

func globalsOf(m *api.Module) []api.GlobalType {
	out := imported(m, api.Global, func(i api.Import) api.GlobalType { return i.Global })
	for _, v := range m.Globals {
		out = append(out, v.Type)
	}
	return out
}

// isDeclared looks for a function where it may be declared.
func isDeclared(m *api.Module, f int) bool {
	is := func(in api.Instr) bool { return ops.Name(in.Op) == "ref.func" && in.A == f }
	return slices.ContainsFunc(m.Exports, func(x api.Export) bool { return x.Kind == api.Func && x.Index == f }) ||
		slices.ContainsFunc(m.Globals, func(v api.Var) bool { return slices.ContainsFunc(v.Init, is) }) ||
		slices.ContainsFunc(m.Elems, func(e api.Elem) bool {
			return slices.ContainsFunc(e.Init, func(l []api.Instr) bool { return slices.ContainsFunc(l, is) })
		})
}

func (m *model) pop(want int) int {
	block := m.blocks[len(m.blocks)-1]
	got := unknown
	if len(m.stack) == block.height {
		m.need(block.open)
	} else {
		got = m.stack[len(m.stack)-1]
		m.stack = m.stack[:len(m.stack)-1]
	}
	m.need(got == want || got == unknown || want == unknown)
	return got
}

func (m *model) popAll(types []int) (got []int) {
	for i := range types {
		got = append(got, m.pop(types[len(types)-1-i]))
	}
	slices.Reverse(got)
	return got
}

func (m *model) push(types ...int) { m.stack = append(m.stack, types...) }

func (m *model) begin(in api.Instr, begin, end []int) {
	m.blocks = append(m.blocks, control{in: in, begin: begin, end: end, height: len(m.stack)})
	m.push(begin...)
}

func (m *model) finish() control {
	last := m.blocks[len(m.blocks)-1]
	m.popAll(last.end)
	m.need(len(m.stack) == last.height)
	m.blocks = m.blocks[:len(m.blocks)-1]
	return last
}

func (m *model) label(n int) []int {
	m.need(n < len(m.blocks))
	block := m.blocks[len(m.blocks)-1-n]
	if ops.Name(block.in.Op) == "loop" {
		return block.begin
	}
	return block.end
}

func (m *model) transfer() {
	last := &m.blocks[len(m.blocks)-1]
	m.stack = m.stack[:last.height]
	last.open = true
}

// indices are what A and B of the kinds of instructions have to be less than, a letter for each: t types, f functions, T tables, g globals, l locals, d and e segments of bytes and references; m: there is a memory; -: anything.
var indices = map[int]string{
	ops.ImmFunc: "f", ops.ImmIndirect: "tT", ops.ImmLocal: "l", ops.ImmGlobal: "g", ops.ImmTab: "T", ops.ImmTabs: "TT", ops.ImmElemTab: "eT", ops.ImmElem: "e", ops.ImmData: "d", ops.ImmDataMem: "dm",
	ops.ImmMem: "-m", ops.ImmMemLane: "-m", ops.ImmZero: "m", ops.ImmZeros: "m",
}

func (m *model) indices(in api.Instr) {
	for i, letter := range indices[ops.Imm(in.Op)] {
		n := []int{in.A, in.B}[i]
		switch letter {
		case 't':
			m.need(n < len(m.m.Types))
		case 'f':
			m.need(n < len(funcTypes(m.m)))
		case 'T':
			m.need(n < len(tablesOf(m.m)))
		case 'g':
			m.need(n < len(globalsOf(m.m)))
		case 'l':
			m.need(n < len(m.locals))
		case 'd':
			m.need(n < len(m.m.Datas))
		case 'e':
			m.need(n < len(m.m.Elems))
		case 'm':
			m.need(len(memsOf(m.m)) > 0)
		}
	}
}

// rows are lines of P12.2's table, a letter for each type or list of types: i I32; l, g, t that of the local, of the global, of the table; a A; s L; p, r those of the function; P, R those of the type A; @ those of the label; F those of the function around; * control is transferred.
var rows = map[string]string{
	"br": "@ -> *", "br_if": "@i -> @", "return": "F -> *", "unreachable": "-> *", "call": "p -> r", "call_indirect": "Pi -> R",
	"local.get": "-> l", "local.set": "l ->", "local.tee": "l -> l", "global.get": "-> g", "global.set": "g ->",
	"table.get": "i -> t", "table.set": "it ->", "table.grow": "ti -> i", "table.fill": "iti ->", "ref.null": "-> a", "select:": "ssi -> s",
}

func (m *model) types(letter rune, in api.Instr) []int {
	switch letter {
	case 'l':
		return []int{m.locals[in.A]}
	case 'g':
		return []int{globalsOf(m.m)[in.A].Type}
	case 't':
		return []int{tablesOf(m.m)[in.A].Ref}
	case 'a':
		return []int{in.A}
	case 's':
		return in.L
	case 'p':
		return m.m.Types[funcTypes(m.m)[in.A]].Params
	case 'r':
		return m.m.Types[funcTypes(m.m)[in.A]].Results
	case 'P':
		return m.m.Types[in.A].Params
	case 'R':
		return m.m.Types[in.A].Results
	case '@':
		return m.label(in.A)
	case 'F':
		return m.results
	}
	return []int{api.I32}
}

// row follows an instruction by its line.
func (m *model) row(line string, in api.Instr) {
	takes, leaves, _ := strings.Cut(line, "->")
	letters := []rune(strings.TrimSpace(takes))
	slices.Reverse(letters)
	for _, letter := range letters {
		m.popAll(m.types(letter, in))
	}
	for _, letter := range strings.TrimSpace(leaves) {
		if letter == '*' {
			m.transfer()
			return
		}
		m.push(m.types(letter, in)...)
	}
}

// conditions are what else is asked of an instruction.
func (m *model) conditions(name string, in api.Instr) {
	tables := tablesOf(m.m)
	switch name {
	case "ref.func":
		m.need(isDeclared(m.m, in.A))
	case "call_indirect":
		m.need(tables[in.B].Ref == api.FuncRef)
	case "global.set":
		m.need(globalsOf(m.m)[in.A].Mut)
	case "table.copy":
		m.need(tables[in.A].Ref == tables[in.B].Ref)
	case "table.init":
		m.need(m.m.Elems[in.A].Ref == tables[in.B].Ref)
	}
	switch ops.Imm(in.Op) {
	case ops.ImmSelect:
		m.need(len(in.L) == 1)
	case ops.ImmMem, ops.ImmMemLane:
		m.need(in.A < 6 && 1<<in.A <= 1<<ops.Align(in.Op))
	case ops.ImmLane:
		m.need(in.A < ops.Lanes(in.Op))
	}
	if lanes := ops.Lanes(in.Op); lanes > 0 {
		m.need(!slices.ContainsFunc(in.L, func(lane int) bool { return lane >= lanes }))
	}
}

func isNumber(typ int) bool { return typ == unknown || slices.Contains(numberTypes, typ) }

// special follows the instructions that have no line.
func (m *model) special(name string, in api.Instr) {
	switch name {
	case "drop":
		m.pop(unknown)
	case "ref.is_null":
		got := m.pop(unknown)
		m.need(got == unknown || !isNumber(got))
		m.push(api.I32)
	case "select":
		m.pop(api.I32)
		a := m.pop(unknown)
		b := m.pop(a)
		m.need(isNumber(a) && isNumber(b))
		m.push(max(a, b))
	case "br_table":
		m.pop(api.I32)
		for _, n := range in.L {
			m.need(len(m.label(n)) == len(m.label(in.A)))
			m.push(m.popAll(m.label(n))...)
		}
		m.popAll(m.label(in.A))
		m.transfer()
	}
}

// instr follows an instruction that no others are nested in.
func (m *model) instr(in api.Instr) {
	name := ops.Name(in.Op)
	if in.Op == 0x1c {
		name = "select:"
	}
	m.indices(in)
	m.conditions(name, in)
	if takes, leaves, fixed := ops.Sign(in.Op); fixed {
		m.popAll(takes)
		m.push(leaves...)
	} else if line, ok := rows[name]; ok {
		m.row(line, in)
	} else {
		m.special(name, in)
	}
}

// block follows the beginning of a block.
func (m *model) block(in api.Instr) {
	var f api.FuncType
	switch in.A {
	case 1:
		f.Results = []int{in.B}
	case 2:
		m.need(in.B < len(m.m.Types))
		f = m.m.Types[in.B]
	}
	if ops.Name(in.Op) == "if" {
		m.pop(api.I32)
		m.need(in.Other || slices.Equal(f.Params, f.Results))
	}
	m.popAll(f.Params)
	m.begin(in, f.Params, f.Results)
}

// event is an instruction in a list without nesting; or an else, or an end.
type event struct {
	in   api.Instr
	mark string
}

func events(l []api.Instr) (out []event) {
	for _, in := range l {
		out = append(out, event{in: in})
		if ops.Imm(in.Op) == ops.ImmBlock {
			out = append(out, events(in.Body)...)
			if in.Other {
				out = append(append(out, event{mark: "else"}), events(in.Else)...)
			}
			out = append(out, event{mark: "end"})
		}
	}
	return out
}

// code follows instructions from beginning to end.
func (m *model) code(l []api.Instr, results []int) {
	m.results = results
	m.begin(api.Instr{Op: 0x02}, nil, results)
	for _, e := range events(l) {
		switch {
		case e.mark == "else":
			block := m.finish()
			m.begin(block.in, block.begin, block.end)
		case e.mark == "end":
			m.push(m.finish().end...)
		case ops.Imm(e.in.Op) == ops.ImmBlock:
			m.block(e.in)
		default:
			m.instr(e.in)
		}
	}
	m.finish()
}

// constant follows Init or Offset.
func (m *model) constant(l []api.Instr, typ int) {
	m.need(len(l) == 1)
	name, immutable := ops.Name(l[0].Op), imported(m.m, api.Global, func(i api.Import) bool { return !i.Global.Mut })
	switch {
	case name == "ref.func":
		m.need(typ == api.FuncRef && l[0].A < len(funcTypes(m.m)))
	case name == "ref.null":
		m.need(typ == l[0].A)
	case name == "global.get":
		m.need(l[0].A < len(immutable) && immutable[l[0].A] && globalsOf(m.m)[l[0].A].Type == typ)
	default:
		typeName, ok := strings.CutSuffix(name, ".const")
		m.need(ok && typeNames[typeName] == typ)
	}
}

// limits are within bounds.
func (m *model) limits() {
	for _, table := range tablesOf(m.m) {
		m.need(!table.L.Has || table.L.Min <= table.L.Max)
	}
	for i, mem := range memsOf(m.m) {
		m.need(i == 0 && mem.Min <= 65536 && mem.Max <= 65536 && (!mem.Has || mem.Min <= mem.Max))
	}
}

// counts is how many there are of each kind.
func (m *model) counts() [4]int {
	return [...]int{api.Func: len(funcTypes(m.m)), api.Table: len(tablesOf(m.m)), api.Mem: len(memsOf(m.m)), api.Global: len(globalsOf(m.m))}
}

// module follows P12.1.
func (m *model) module() {
	for _, f := range funcTypes(m.m) {
		m.need(f < len(m.m.Types))
	}
	m.limits()
	for i, x := range m.m.Exports {
		m.need(x.Index < m.counts()[x.Kind])
		m.need(!slices.ContainsFunc(m.m.Exports[:i], func(y api.Export) bool { return x.Name == y.Name }))
	}
	if m.m.Start > 0 {
		m.need(m.m.Start <= len(funcTypes(m.m)))
		f := m.m.Types[funcTypes(m.m)[m.m.Start-1]]
		m.need(len(f.Params)+len(f.Results) == 0)
	}
	for _, v := range m.m.Globals {
		m.constant(v.Init, v.Type.Type)
	}
	for _, e := range m.m.Elems {
		for _, init := range e.Init {
			m.constant(init, e.Ref)
		}
		if e.Mode == api.Active {
			m.constant(e.Offset, api.I32)
			m.need(e.Table < m.counts()[api.Table] && tablesOf(m.m)[e.Table].Ref == e.Ref)
		}
	}
	for _, d := range m.m.Datas {
		if d.Mode == api.Active {
			m.constant(d.Offset, api.I32)
			m.need(d.Mem < m.counts()[api.Mem])
		}
	}
	for _, c := range m.m.Funcs {
		f := m.m.Types[c.Type]
		m.locals, m.stack, m.blocks = slices.Concat(f.Params, c.Locals), nil, nil
		m.code(c.Body, f.Results)
	}
}

// modelCheck is what Check has to tell.
func modelCheck(m api.Module) (e api.Errno) {
	if !shape.May(m) {
		return api.ErrArg
	}
	defer func() {
		if p := recover(); p != nil {
			e = p.(api.Errno)
		}
	}()
	(&model{m: &m}).module()
	return api.OK
}
