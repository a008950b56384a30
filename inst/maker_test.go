package inst_test

import (
	"slices"
	"strconv"

	"bodkin/api"
	"bodkin/inst"
	"bodkin/run"
	"bodkin/store"
)

// sequence is numbers without a pattern, the same ones each time.
type sequence uint64

func (s *sequence) next(n int) int {
	*s += 0x9e3779b97f4a7c15
	z := uint64(*s)
	z = (z ^ z>>30) * 0xbf58476d1ce4e5b9
	z = (z ^ z>>27) * 0x94d049bb133111eb
	return int((z ^ z>>31) % uint64(n))
}

// one is an element of a list.
func one[T any](s *sequence, l []T) T { return l[s.next(len(l))] }

// maker makes modules and what is given to them, from what there is in a store.
type maker struct {
	sequence
	s     *store.Store
	m     api.Module
	given []inst.Extern
	size  []int // how many objects of each kind the module has
}

// call makes a call, most of which end without an error.
func (g *maker) call(s *store.Store) *call {
	g.s, g.m, g.given, g.size = s, api.Module{Types: []api.FuncType{{}}, Count: true}, nil, make([]int, 4)
	for range g.next(7) {
		g.asked()
	}
	g.own()
	for range g.next(4) {
		g.elem()
	}
	for range g.next(4) {
		g.data()
	}
	g.exports()
	g.bodies()
	c := &call{s: s, m: g.m, given: g.given, l: run.Limits{Fuel: g.next(200), Depth: 1 + g.next(4), Pages: 1 + g.next(4)}}
	if g.next(12) == 0 {
		g.spoilCall(c)
	}
	return c
}

// asked makes an import that something in the store fits.
func (g *maker) asked() {
	x := inst.Extern{Kind: g.next(4)}
	x.Addr = g.next([]int{len(g.s.Funcs), len(g.s.Tables), len(g.s.Mems), len(g.s.Globals)}[x.Kind])
	i := api.Import{Module: "m" + strconv.Itoa(g.next(3)), Name: strconv.Itoa(g.next(3)), Kind: x.Kind}
	switch x.Kind {
	case api.Func:
		i.Type = g.typeOf(g.s.Funcs[x.Addr].Type)
	case api.Table:
		t := g.s.Tables[x.Addr]
		i.Table = api.TableType{Ref: t.Type.Ref, L: g.wider(len(t.L), t.Type.L)}
	case api.Mem:
		if g.size[api.Mem] > 0 {
			return
		}
		m := g.s.Mems[x.Addr]
		i.Mem = g.wider(len(m.B)/api.PageSize, m.L)
	case api.Global:
		i.Global = g.s.Globals[x.Addr].Type
	}
	g.m.Imports = append(g.m.Imports, i)
	g.given = append(g.given, x)
	g.size[x.Kind]++
}

// wider are limits that something of a size satisfies.
func (g *maker) wider(size int, l api.Limits) api.Limits {
	out := api.Limits{Min: g.next(size + 1)}
	if l.Has && g.next(2) == 0 {
		out.Has, out.Max = true, min(l.Max+g.next(3), api.MaxPages)
	}
	return out
}

// typeOf is the index of a type, which may be a new one.
func (g *maker) typeOf(f api.FuncType) int {
	i := slices.IndexFunc(g.m.Types, func(x api.FuncType) bool { return sameType(x, f) })
	if i < 0 || g.next(5) == 0 {
		g.m.Types = append(g.m.Types, clonedType(f))
		i = len(g.m.Types) - 1
	}
	return i
}

// limits are some for a table or a memory.
func (g *maker) limits() api.Limits {
	l := api.Limits{Min: g.next(4)}
	if g.next(2) == 0 {
		l.Has, l.Max = true, l.Min+g.next(3)
	}
	return l
}

// own makes what the module has of its own, but for the functions' bodies.
func (g *maker) own() {
	for range g.next(5) {
		typ := g.typeOf(funcType(one(&g.sequence, worldTypes)))
		g.m.Funcs = append(g.m.Funcs, api.Code{Type: typ})
		g.size[api.Func]++
	}
	for range g.next(3) {
		g.m.Tables = append(g.m.Tables, api.TableType{Ref: one(&g.sequence, valueTypes[5:]), L: g.limits()})
		g.size[api.Table]++
	}
	if g.size[api.Mem] == 0 && g.next(3) > 0 {
		g.m.Mems = []api.Limits{g.limits()}
		g.size[api.Mem]++
	}
	for range g.next(4) {
		typ := api.GlobalType{Type: one(&g.sequence, valueTypes), Mut: g.next(2) == 0}
		g.m.Globals = append(g.m.Globals, api.Var{Type: typ, Init: g.constant(typ.Type)})
	}
	g.size[api.Global] += len(g.m.Globals)
}

// constant makes an instruction for Init or Offset.
func (g *maker) constant(typ int) []api.Instr {
	if globals := g.constantGlobals(typ); len(globals) > 0 && g.next(2) == 0 {
		return []api.Instr{{Op: 0x23, A: one(&g.sequence, globals)}}
	}
	if typ == api.FuncRef && g.size[api.Func] > 0 && g.next(4) > 0 {
		return []api.Instr{{Op: 0xd2, A: g.next(g.size[api.Func])}}
	}
	in := zero(typ)[0]
	if typ == api.FuncRef || typ == api.ExternRef {
		return []api.Instr{in}
	}
	in.N = cut(typ, uint64(g.next(1<<62))<<(2*g.next(2)))
	if typ == api.V128 {
		in.H = uint64(g.next(1 << 62))
	}
	return []api.Instr{in}
}

// constantGlobals are the indices of imported globals of a type that cannot be changed.
func (g *maker) constantGlobals(typ int) []int {
	var out []int
	for i, x := range ofKind(g.m, api.Global) {
		if x.Global == (api.GlobalType{Type: typ}) {
			out = append(out, i)
		}
	}
	return out
}

// zero is an instruction that leaves a value of a type.
func zero(typ int) []api.Instr {
	for name, t := range typeNames {
		if t == typ {
			if typ == api.FuncRef || typ == api.ExternRef {
				return code("ref.null:" + name)
			}
			return code(name + ".const:0")
		}
	}
	panic("no type")
}

// offset makes an Offset for n elements of something that has about so many.
func (g *maker) offset(size, n int) []api.Instr {
	if g.next(8) == 0 {
		return g.constant(api.I32)
	}
	at := g.next(max(1, size-n+1))
	if g.next(10) == 0 {
		at = max(0, size-n+1+g.next(2))
	}
	return []api.Instr{{Op: 0x41, N: uint64(at)}}
}

// sizes are how many elements the tables of the module have when it begins, and their types.
func (g *maker) sizes() (sizes, refs []int) {
	for _, x := range g.given {
		if x.Kind == api.Table {
			t := g.s.Tables[x.Addr]
			sizes, refs = append(sizes, len(t.L)), append(refs, t.Type.Ref)
		}
	}
	for _, t := range g.m.Tables {
		sizes, refs = append(sizes, t.L.Min), append(refs, t.Ref)
	}
	return sizes, refs
}

// elem makes a segment of references.
func (g *maker) elem() {
	e := api.Elem{Ref: one(&g.sequence, valueTypes[5:]), Mode: g.next(3)}
	sizes, refs := g.sizes()
	if e.Mode == api.Active {
		if len(sizes) == 0 {
			return
		}
		e.Table = g.next(len(sizes))
		e.Ref = refs[e.Table]
	}
	for range g.next(4) {
		e.Init = append(e.Init, g.constant(e.Ref))
	}
	if e.Mode == api.Active {
		e.Offset = g.offset(sizes[e.Table], len(e.Init))
	}
	g.m.Elems = append(g.m.Elems, e)
}

// pages are how many the memory of the module has when it begins.
func (g *maker) pages() int {
	for _, x := range g.given {
		if x.Kind == api.Mem {
			return len(g.s.Mems[x.Addr].B) / api.PageSize
		}
	}
	return g.m.Mems[0].Min
}

// data makes a segment of bytes.
func (g *maker) data() {
	d := api.Data{Mode: g.next(2)}
	for range g.next(6) {
		d.Bytes = append(d.Bytes, byte(1+g.next(255)))
	}
	if d.Mode == api.Active {
		if g.size[api.Mem] == 0 {
			return
		}
		d.Offset = g.offset(g.pages()*api.PageSize, len(d.Bytes))
	}
	g.m.Datas = append(g.m.Datas, d)
}

// exports makes exports of some objects, some of which have several.
func (g *maker) exports() {
	for i := range g.next(6) {
		kind := g.next(4)
		if g.size[kind] > 0 {
			g.m.Exports = append(g.m.Exports, api.Export{Name: strconv.Itoa(i), Kind: kind, Index: g.next(g.size[kind])})
		}
	}
}

// functionTypes are the types of all functions of the module.
func (g *maker) functionTypes() []api.FuncType {
	var out []api.FuncType
	for _, i := range ofKind(g.m, api.Func) {
		out = append(out, g.m.Types[i.Type])
	}
	for _, c := range g.m.Funcs {
		out = append(out, g.m.Types[c.Type])
	}
	return out
}

// bodies makes the functions' bodies, and chooses one to start with.
func (g *maker) bodies() {
	types := g.functionTypes()
	for i, c := range g.m.Funcs {
		var body []api.Instr
		for range g.next(4) {
			body = append(body, g.effect(types)...)
		}
		g.m.Funcs[i].Body = append(body, zeros(g.m.Types[c.Type].Results)...)
	}
	var starts []int
	for i, f := range types {
		if len(f.Params)+len(f.Results) == 0 {
			starts = append(starts, i)
		}
	}
	if len(starts) > 0 && g.next(4) > 0 {
		g.m.Start = 1 + one(&g.sequence, starts)
	}
}

// zeros are instructions that leave a value of each of the types.
func zeros(types []int) []api.Instr {
	var out []api.Instr
	for _, typ := range types {
		out = append(out, zero(typ)...)
	}
	return out
}

// effect makes instructions that leave nothing, but do something.
func (g *maker) effect(types []api.FuncType) []api.Instr {
	kind := g.next(12)
	switch {
	case kind == 0 && g.next(2) == 0:
		return code("unreachable")
	case kind == 1 && g.next(6) == 0:
		return code("loop br:0 end")
	case kind < 5 && len(types) > 0:
		i := g.next(len(types))
		out := append(zeros(types[i].Params), api.Instr{Op: 0x10, A: i})
		return append(out, slices.Repeat(code("drop"), len(types[i].Results))...)
	case kind < 7 && g.size[api.Mem] > 0:
		at := g.next(10)
		if g.next(6) == 0 {
			at = g.pages() * api.PageSize
		}
		return append([]api.Instr{{Op: 0x41, N: uint64(at)}, {Op: 0x41, N: uint64(g.next(100))}}, code("i32.store8:0,0")...)
	case kind < 8 && g.size[api.Mem] > 0 && g.pages() < 3:
		return code("i32.const:1 memory.grow drop")
	case kind < 10 && g.size[api.Global] > 0:
		return g.setGlobal()
	case len(g.m.Datas) > 0:
		return []api.Instr{{Op: 0xfc09, A: g.next(len(g.m.Datas))}}
	}
	return code("nop")
}

// setGlobal makes instructions that change a global, if the one that is met can be changed.
func (g *maker) setGlobal() []api.Instr {
	var types []api.GlobalType
	for _, i := range ofKind(g.m, api.Global) {
		types = append(types, i.Global)
	}
	for _, v := range g.m.Globals {
		types = append(types, v.Type)
	}
	i := g.next(len(types))
	if !types[i].Mut {
		return code("nop")
	}
	return append(zero(types[i].Type), api.Instr{Op: 0x24, A: i})
}

// spoilCall makes what is given, or a type or limits that are asked for, another one.
func (g *maker) spoilCall(c *call) {
	kind := g.next(6)
	if len(c.given) == 0 {
		kind = g.next(2)
	}
	switch kind {
	case 0:
		c.given = append(c.given, inst.Extern{})
	case 1:
		g.spoil(&c.m)
	case 2:
		c.given = c.given[1:]
	case 3:
		c.given[g.next(len(c.given))].Addr += 1 - 2*g.next(2)
	case 4:
		c.given[g.next(len(c.given))].Kind = g.next(5)
	case 5:
		i := &c.m.Imports[g.next(len(c.given))]
		switch i.Kind {
		case api.Func:
			i.Type = g.next(len(c.m.Types))
		case api.Table:
			i.Table.L.Min++
		case api.Mem:
			i.Mem.Min += 2
		case api.Global:
			i.Global.Mut = !i.Global.Mut
		}
	}
}

// spoil changes a module so that it is not valid any more, in most cases.
func (g *maker) spoil(m *api.Module) {
	switch g.next(6) {
	case 0:
		m.Start = 1 + g.next(9)
	case 1:
		m.Exports = append(m.Exports, api.Export{Name: "0", Kind: g.next(5), Index: g.next(4)})
	case 2:
		m.Globals = append(m.Globals, api.Var{Type: api.GlobalType{Type: one(&g.sequence, valueTypes)}, Init: zero(one(&g.sequence, valueTypes))})
	case 3:
		m.Mems = append(m.Mems, api.Limits{Min: g.next(4), Max: g.next(4), Has: g.next(2) == 0})
	case 4:
		m.Funcs = append(m.Funcs, api.Code{Type: g.next(4), Body: code("call:3")})
	case 5:
		m.Elems = append(m.Elems, api.Elem{Ref: one(&g.sequence, valueTypes[4:]), Mode: g.next(3), Offset: code("i64.const:1")[g.next(2):]})
	}
}
