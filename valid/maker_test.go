package valid_test

import (
	"slices"
	"strconv"

	"bodkin/api"
	"bodkin/ops"
)

// sequence is numbers without a pattern, the same ones each time.
type sequence uint64

func (s *sequence) next(n int) int {
	*s += 0x9e3779b97f4a7c15
	z := uint64(*s)
	z = (z ^ z>>30) * 0xbf58476d1ce4e5b9
	z = (z ^ z>>27) * 0x94d049bb133111eb
	return int((z ^ z>>31) % uint64(n))
}

// one is an element of a list.
func one[T any](s *sequence, l []T) T { return l[s.next(len(l))] }

// some is up to so many elements of a list, which may occur more than once.
func some[T any](s *sequence, l []T, most int) []T {
	var out []T
	for range s.next(most + 1) {
		out = append(out, one(s, l))
	}
	return out
}

// places are where in a list something is so.
func places[T any](l []T, is func(T) bool) []int {
	var out []int
	for i, x := range l {
		if is(x) {
			out = append(out, i)
		}
	}
	return out
}

// leaving are the instructions with fixed types that leave one value of a type, by it; 0: nothing.
var leaving = func() map[int][]int {
	out := map[int][]int{}
	for _, op := range known {
		if _, leaves, fixed := ops.Sign(op); fixed {
			typ := 0
			if len(leaves) == 1 {
				typ = leaves[0]
			}
			out[typ] = append(out[typ], op)
		}
	}
	return out
}()

// maker makes modules, most of them valid.
type maker struct {
	sequence
	m       *api.Module
	locals  []int
	results []int
	labels  [][]int // the innermost one last
}

func (g *maker) limits(most int) api.Limits {
	l := api.Limits{Min: g.next(most), Has: g.next(2) == 0}
	if l.Has {
		l.Max = l.Min + g.next(most)
	}
	return l
}

func (g *maker) globalType() api.GlobalType {
	return api.GlobalType{Type: one(&g.sequence, valueTypes), Mut: g.next(2) == 0}
}

func (g *maker) tableType() api.TableType {
	return api.TableType{Ref: one(&g.sequence, []int{api.FuncRef, api.FuncRef, api.ExternRef}), L: g.limits(9)}
}

func (g *maker) imported() api.Import {
	i := api.Import{Module: "m", Name: "n", Kind: g.next(4)}
	switch i.Kind {
	case api.Func:
		i.Type = g.next(len(g.m.Types))
	case api.Table:
		i.Table = g.tableType()
	case api.Mem:
		i.Mem = g.limits(9)
	case api.Global:
		i.Global = g.globalType()
	}
	return i
}

// constant is instructions for Init or Offset.
func (g *maker) constant(typ int) []api.Instr {
	globals := places(imported(g.m, api.Global, func(i api.Import) api.GlobalType { return i.Global }), func(x api.GlobalType) bool { return !x.Mut && x.Type == typ })
	if len(globals) > 0 && g.next(2) == 0 {
		return []api.Instr{{Op: 0x23, A: one(&g.sequence, globals)}}
	}
	if count := len(funcTypes(g.m)); typ == api.FuncRef && count > 0 && g.next(3) > 0 {
		return []api.Instr{{Op: 0xd2, A: g.next(count)}}
	}
	return values(typ)
}

func (g *maker) elem() api.Elem {
	e := api.Elem{Ref: one(&g.sequence, valueTypes[5:]), Mode: g.next(3)}
	if e.Mode == api.Active {
		e.Table, e.Offset = g.next(max(1, len(tablesOf(g.m)))), g.constant(api.I32)
		if e.Table < len(tablesOf(g.m)) {
			e.Ref = tablesOf(g.m)[e.Table].Ref
		}
	}
	for range g.next(3) {
		e.Init = append(e.Init, g.constant(e.Ref))
	}
	return e
}

func (g *maker) data() api.Data {
	d := api.Data{Mode: g.next(2), Bytes: []byte{1, 2, 3}}
	if d.Mode == api.Active {
		d.Offset = g.constant(api.I32)
	}
	return d
}

// outside makes all of a module but bodies of functions and what refers to those.
func (g *maker) outside() {
	m := g.m
	for range 2 + g.next(5) {
		m.Types = append(m.Types, api.FuncType{Params: some(&g.sequence, valueTypes, 3), Results: some(&g.sequence, valueTypes, 2)})
	}
	for range g.next(7) {
		i := g.imported()
		if i.Kind != api.Mem || len(memsOf(m)) == 0 {
			m.Imports = append(m.Imports, i)
		}
	}
	for range 1 + g.next(3) {
		m.Funcs = append(m.Funcs, api.Code{Type: g.next(len(m.Types)), Locals: some(&g.sequence, valueTypes, 3)})
	}
	for range g.next(3) {
		m.Tables = append(m.Tables, g.tableType())
	}
	if len(memsOf(m)) == 0 && g.next(5) > 0 {
		m.Mems = []api.Limits{g.limits(9)}
	}
	for range g.next(4) {
		typ := g.globalType()
		m.Globals = append(m.Globals, api.Var{Type: typ, Init: g.constant(typ.Type)})
	}
	for range g.next(4) {
		m.Elems = append(m.Elems, g.elem())
	}
	for range g.next(3) {
		if d := g.data(); d.Mode == api.Passive || len(memsOf(m)) > 0 {
			m.Datas = append(m.Datas, d)
		}
	}
	m.Count = true
	counts := (&model{m: m}).counts()
	for i := range g.next(6) {
		if kind := g.next(4); counts[kind] > 0 {
			m.Exports = append(m.Exports, api.Export{Name: strconv.Itoa(i), Kind: kind, Index: g.next(counts[kind])})
		}
	}
	starts := places(funcTypes(m), func(f int) bool { return len(m.Types[f].Params)+len(m.Types[f].Results) == 0 })
	if len(starts) > 0 && g.next(2) == 0 {
		m.Start = 1 + one(&g.sequence, starts)
	}
}

// module makes a module.
func (g *maker) module() api.Module {
	g.m = &api.Module{}
	g.outside()
	for i := range g.m.Funcs {
		c := &g.m.Funcs[i]
		f := g.m.Types[c.Type]
		g.locals, g.results, g.labels = slices.Concat(f.Params, c.Locals), f.Results, [][]int{f.Results}
		c.Body = g.code(f.Results, 4)
	}
	return *g.m
}

// code makes instructions that leave types.
func (g *maker) code(leaves []int, depth int) []api.Instr {
	var out []api.Instr
	for range g.next(4) {
		out = append(out, g.statement(depth)...)
	}
	if g.next(4) > 0 {
		return append(out, g.values(leaves, depth)...)
	}
	out = append(out, g.transfer(depth)...)
	for range g.next(4) {
		out = append(out, g.any(depth))
	}
	return append(out, g.values(leaves[min(len(leaves), g.next(3)):], depth)...)
}

// operand is an instruction of that number, with operands that are often valid.
func (g *maker) operand(op int) api.Instr {
	in := sample(op)
	counts := (&model{m: g.m}).counts()
	index := func(count int) int { return g.next(max(1, count)) }
	switch ops.Imm(op) {
	case ops.ImmMem, ops.ImmMemLane:
		in.A, in.B = g.next(ops.Align(op)+1), g.next(100)
	case ops.ImmLane:
		in.A = g.next(ops.Lanes(op))
	case ops.ImmFunc:
		in.A = index(counts[api.Func])
	case ops.ImmTab:
		in.A = index(counts[api.Table])
	case ops.ImmTabs:
		in.A, in.B = index(counts[api.Table]), index(counts[api.Table])
	case ops.ImmElemTab:
		in.A, in.B = index(len(g.m.Elems)), index(counts[api.Table])
	case ops.ImmElem:
		in.A = index(len(g.m.Elems))
	case ops.ImmData, ops.ImmDataMem:
		in.A = index(len(g.m.Datas))
	case ops.ImmLocal:
		in.A = index(len(g.locals))
	case ops.ImmGlobal:
		in.A = index(counts[api.Global])
	case ops.ImmIndirect:
		in.A, in.B = g.next(len(g.m.Types)), index(counts[api.Table])
	case ops.ImmLabel:
		in.A = g.next(len(g.labels))
	case ops.ImmTable:
		in.A, in.L = g.next(len(g.labels)), []int{g.next(len(g.labels)), g.next(len(g.labels))}
	case ops.ImmRef:
		in.A = one(&g.sequence, valueTypes[5:])
	case ops.ImmSelect:
		in.L = []int{one(&g.sequence, valueTypes)}
	}
	return in
}

// isUsable tells whether an instruction with fixed types is valid there.
func (g *maker) isUsable(in api.Instr) (is bool) {
	defer func() { is = recover() == nil }()
	m := &model{m: g.m}
	m.indices(in)
	m.conditions(ops.Name(in.Op), in)
	return
}

// any is an instruction of any number.
func (g *maker) any(depth int) api.Instr {
	op := one(&g.sequence, known)
	if g.next(3) > 0 {
		op = one(&g.sequence, known[:60])
	}
	if ops.Imm(op) == ops.ImmBlock {
		return g.block(op, g.next(len(g.m.Types)), max(0, depth-1))
	}
	return g.operand(op)
}

// block is a block, a loop or an if of that type.
func (g *maker) block(op, typ, depth int) api.Instr {
	f := g.m.Types[typ]
	in := api.Instr{Op: op, A: 2, B: typ}
	switch {
	case len(f.Params) == 0 && len(f.Results) == 0:
		in.A, in.B = 0, 0
	case len(f.Params) == 0 && len(f.Results) == 1 && g.next(2) == 0:
		in.A, in.B = 1, f.Results[0]
	}
	label := f.Results
	if op == 0x03 {
		label = f.Params
	}
	g.labels = append(g.labels, label)
	within := func() []api.Instr {
		var out []api.Instr
		// Of the parameters, some are dropped, or all of them are what it leaves.
		if slices.Equal(f.Params, f.Results) && g.next(2) == 0 {
			return g.statement(depth)
		}
		for range f.Params {
			out = append(out, api.Instr{Op: 0x1a})
		}
		return append(out, g.code(f.Results, depth)...)
	}
	in.Body = within()
	if op == 0x04 && (!slices.Equal(f.Params, f.Results) || g.next(2) == 0) {
		in.Other, in.Else = true, within()
	}
	g.labels = g.labels[:len(g.labels)-1]
	return in
}

// transfer is instructions behind which nothing is reached.
func (g *maker) transfer(depth int) []api.Instr {
	n := g.next(len(g.labels))
	types := g.labels[len(g.labels)-1-n]
	switch g.next(4) {
	case 0:
		return append(g.values(types, depth-1), api.Instr{Op: 0x0c, A: n})
	case 1:
		others := places(g.labels, func(l []int) bool { return slices.Equal(l, types) })
		in := api.Instr{Op: 0x0e, A: n}
		for _, i := range some(&g.sequence, others, 3) {
			in.L = append(in.L, len(g.labels)-1-i)
		}
		return append(g.values(slices.Concat(types, []int{api.I32}), depth-1), in)
	case 2:
		return append(g.values(g.results, depth-1), api.Instr{Op: 0x0f})
	}
	return []api.Instr{{Op: 0x00}}
}

func (g *maker) values(types []int, depth int) []api.Instr {
	var out []api.Instr
	for _, typ := range types {
		out = append(out, g.value(typ, depth)...)
	}
	return out
}

// blockOf is a block that leaves types, with what it takes.
func (g *maker) blockOf(leaves []int, depth int) []api.Instr {
	types := places(g.m.Types, func(f api.FuncType) bool { return slices.Equal(f.Results, leaves) })
	if len(types) == 0 {
		return nil
	}
	typ, op := one(&g.sequence, types), 0x02+g.next(3)
	out := g.values(g.m.Types[typ].Params, depth-1)
	if op == 0x04 {
		out = append(out, g.value(api.I32, depth-1)...)
	}
	return append(out, g.block(op, typ, depth-1))
}

// callOf is a call that leaves types, with what it takes.
func (g *maker) callOf(leaves []int, depth int) []api.Instr {
	tables := places(tablesOf(g.m), func(t api.TableType) bool { return t.Ref == api.FuncRef })
	types := places(g.m.Types, func(f api.FuncType) bool { return slices.Equal(f.Results, leaves) })
	if len(tables) > 0 && len(types) > 0 && g.next(2) == 0 {
		typ := one(&g.sequence, types)
		return append(g.values(slices.Concat(g.m.Types[typ].Params, []int{api.I32}), depth-1), api.Instr{Op: 0x11, A: typ, B: one(&g.sequence, tables)})
	}
	funcs := places(funcTypes(g.m), func(f int) bool { return slices.Equal(g.m.Types[f].Results, leaves) })
	if len(funcs) == 0 {
		return nil
	}
	f := one(&g.sequence, funcs)
	return append(g.values(g.m.Types[funcTypes(g.m)[f]].Params, depth-1), api.Instr{Op: 0x10, A: f})
}

// fixedOf is an instruction with fixed types that leaves a type, or nothing, with what it takes.
func (g *maker) fixedOf(typ, depth int) []api.Instr {
	if len(leaving[typ]) == 0 {
		return nil
	}
	in := g.operand(one(&g.sequence, leaving[typ]))
	if !g.isUsable(in) {
		return nil
	}
	takes, _, _ := ops.Sign(in.Op)
	return append(g.values(takes, depth-1), in)
}

// value makes instructions that leave a type.
func (g *maker) value(typ, depth int) []api.Instr {
	if depth <= 0 {
		return values(typ)
	}
	var out []api.Instr
	locals := places(g.locals, func(t int) bool { return t == typ })
	globals := places(globalsOf(g.m), func(x api.GlobalType) bool { return x.Type == typ })
	tables := places(tablesOf(g.m), func(t api.TableType) bool { return t.Ref == typ })
	switch kind := g.next(12); {
	case kind < 2 && len(locals) > 0:
		out = []api.Instr{{Op: 0x20, A: one(&g.sequence, locals)}}
		if kind == 1 {
			out = append(g.value(typ, depth-1), api.Instr{Op: 0x22, A: out[0].A})
		}
	case kind == 2 && len(globals) > 0:
		out = []api.Instr{{Op: 0x23, A: one(&g.sequence, globals)}}
	case kind == 3 && len(tables) > 0:
		out = append(g.value(api.I32, depth-1), api.Instr{Op: 0x25, A: one(&g.sequence, tables)})
	case kind == 4:
		out = append(g.values([]int{typ, typ, api.I32}, depth-1), api.Instr{Op: 0x1c, L: []int{typ}})
		if slices.Contains(numberTypes, typ) && g.next(2) == 0 {
			out[len(out)-1] = api.Instr{Op: 0x1b}
		}
	case kind == 5:
		out = g.callOf([]int{typ}, depth)
	case kind == 6:
		out = g.blockOf([]int{typ}, depth)
	case kind == 7 && typ == api.I32:
		out = append(g.value(one(&g.sequence, valueTypes[5:]), depth-1), api.Instr{Op: 0xd1})
	case kind > 7:
		out = g.fixedOf(typ, depth)
	}
	if out == nil {
		return values(typ)
	}
	return out
}

// statement makes instructions that leave what there was.
func (g *maker) statement(depth int) []api.Instr {
	if depth <= 0 {
		return []api.Instr{{Op: 0x01}}
	}
	mutable := places(globalsOf(g.m), func(x api.GlobalType) bool { return x.Mut })
	tables := places(tablesOf(g.m), func(api.TableType) bool { return true })
	switch kind := g.next(10); {
	case kind == 0 && len(g.locals) > 0:
		i := g.next(len(g.locals))
		return append(g.value(g.locals[i], depth-1), api.Instr{Op: 0x21, A: i})
	case kind == 1 && len(mutable) > 0:
		i := one(&g.sequence, mutable)
		return append(g.value(globalsOf(g.m)[i].Type, depth-1), api.Instr{Op: 0x24, A: i})
	case kind == 2 && len(tables) > 0:
		return g.tableStatement(one(&g.sequence, tables), depth)
	case kind == 3:
		n := g.next(len(g.labels))
		types := g.labels[len(g.labels)-1-n]
		out := append(g.values(slices.Concat(types, []int{api.I32}), depth-1), api.Instr{Op: 0x0d, A: n})
		return append(out, slices.Repeat([]api.Instr{{Op: 0x1a}}, len(types))...)
	case kind == 4:
		return g.callOf(nil, depth)
	case kind == 5:
		return g.blockOf(nil, depth)
	case kind < 8:
		return g.fixedOf(0, depth)
	}
	return append(g.value(one(&g.sequence, valueTypes), depth-1), api.Instr{Op: 0x1a})
}

func (g *maker) tableStatement(table, depth int) []api.Instr {
	ref := tablesOf(g.m)[table].Ref
	switch g.next(3) {
	case 0:
		return append(g.values([]int{api.I32, ref}, depth-1), api.Instr{Op: 0x26, A: table})
	case 1:
		return append(g.values([]int{api.I32, ref, api.I32}, depth-1), api.Instr{Op: 0xfc00 + 17, A: table})
	}
	return append(g.values([]int{ref, api.I32}, depth-1), api.Instr{Op: 0xfc00 + 15, A: table}, api.Instr{Op: 0x1a})
}
