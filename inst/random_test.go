package inst_test

import (
	"slices"
	"testing"

	"bodkin/api"
	"bodkin/inst"
	"bodkin/run"
	"bodkin/shape"
	"bodkin/store"
)

// P16.2 to P16.4: modules without a pattern, one behind another in a store, against the model. Objects that exist keep their addresses and types, and the store remains sound.
func TestAgainstModel(t *testing.T) {
	g := &maker{sequence: 1}
	ends, starts := map[api.Errno]int{}, 0
	for range 150 {
		s := world()
		for range 8 {
			c := g.call(s)
			other := &model{call: &call{s: cloned(s), m: shape.Copy(c.m), given: slices.Clone(c.given), l: c.l}}
			want, before := other.do(), headOf(s)
			got := c.do()
			ends[want.e]++
			starts += min(1, want.steps)
			if d := difference(s, other.s); d != "" || got != want {
				t.Fatal("it is", got, "and not", want, "and there is a difference in", d)
			}
			checkSound(t, s)
			before.check(t, s)
			c.forget()
			if d := difference(s, other.s); d != "" {
				t.Fatal("what is given is kept in", d)
			}
			g.use(t, s)
		}
	}
	for _, e := range []api.Errno{0, api.ErrArg, api.ErrInvalid, api.ErrLink, api.ErrRoom, api.TrapTable, api.TrapMemory, api.TrapUnreachable, api.ErrFuel, api.ErrDepth} {
		if ends[e] < 3 {
			t.Error("only", ends[e], "ended with", int(e))
		}
	}
	if starts < 100 {
		t.Error("only", starts, "have started")
	}
}

// forget changes all that the call has got but its store.
func (c *call) forget() {
	clear(c.given)
	for i := range c.m.Types {
		clear(c.m.Types[i].Params)
		clear(c.m.Types[i].Results)
	}
	for i := range c.m.Funcs {
		clear(c.m.Funcs[i].Body)
	}
	for i := range c.m.Globals {
		clear(c.m.Globals[i].Init)
	}
	for _, e := range c.m.Elems {
		clear(e.Offset)
		for _, init := range e.Init {
			clear(init)
		}
		clear(e.Init)
	}
	for _, d := range c.m.Datas {
		clear(d.Bytes)
	}
	clear(c.m.Types)
	clear(c.m.Imports)
	clear(c.m.Funcs)
	clear(c.m.Tables)
	clear(c.m.Mems)
	clear(c.m.Globals)
	clear(c.m.Exports)
	clear(c.m.Elems)
	clear(c.m.Datas)
}

// head is the objects that a store has, and their types.
type head struct {
	funcs   []store.Func
	tables  []*store.Table
	mems    []*store.Mem
	globals []*store.Global
	insts   []*store.Inst
	types   []any
}

func headOf(s *store.Store) head {
	h := head{funcs: slices.Clone(s.Funcs), tables: slices.Clone(s.Tables), mems: slices.Clone(s.Mems), globals: slices.Clone(s.Globals), insts: slices.Clone(s.Insts)}
	for _, t := range s.Tables {
		h.types = append(h.types, t.Type)
	}
	for _, m := range s.Mems {
		h.types = append(h.types, m.L)
	}
	for _, g := range s.Globals {
		h.types = append(h.types, g.Type)
	}
	return h
}

// check makes sure that a store begins with the objects that it had, with their types.
func (h head) check(t *testing.T, s *store.Store) {
	t.Helper()
	now := headOf(&store.Store{Funcs: s.Funcs[:len(h.funcs)], Tables: s.Tables[:len(h.tables)], Mems: s.Mems[:len(h.mems)], Globals: s.Globals[:len(h.globals)], Insts: s.Insts[:len(h.insts)]})
	if !slices.EqualFunc(now.funcs, h.funcs, sameFunc) || !slices.Equal(now.tables, h.tables) || !slices.Equal(now.mems, h.mems) || !slices.Equal(now.globals, h.globals) || !slices.Equal(now.insts, h.insts) || !slices.Equal(now.types, h.types) {
		t.Error("objects have changed")
	}
}

// use calls a function of the store, whatever it is, with zeros.
func (g *maker) use(t *testing.T, s *store.Store) {
	t.Helper()
	f := g.next(len(s.Funcs))
	var args []api.Value
	for _, typ := range s.Funcs[f].Type.Params {
		args = append(args, store.Zero(typ))
	}
	out, _, e := run.Invoke(s, f, args, run.Limits{Fuel: 50, Depth: 4, Pages: 4})
	if e == api.ErrArg || e == api.OK && len(out) != len(s.Funcs[f].Type.Results) {
		t.Error("the function", f, "of", s.Funcs[f].Type, "leaves", out, int(e))
	}
	checkSound(t, s)
}

// P16.2: what is given is not changed, nor what lies behind the ends of lists, and the module is another one than that in the store.
func TestArgumentsStay(t *testing.T) {
	for _, e := range []api.Errno{api.OK, api.TrapTable} {
		m, given := full()
		if e != api.OK {
			m.Elems[5].Offset = code("i32.const:2")
		}
		same, end := shape.Copy(m), inst.Extern{Kind: 7, Addr: 7}
		long := append(slices.Clone(given), end)
		m.Datas[0].Bytes = append(slices.Clone(m.Datas[0].Bytes), "behind"...)[:7]
		m.Exports = append(slices.Clone(m.Exports), api.Export{Name: "behind"})[:len(m.Exports)]
		s := world()
		if got := instantiate(s, m, long[:len(given)], usual); got.e != e {
			t.Error("it is", got)
		}
		// Calls of the store's functions and changes of its lists do not change the module.
		for _, b := range s.Datas[3:] {
			clear(b)
		}
		for _, l := range s.Elems[2:] {
			clear(l)
		}
		for _, f := range s.Funcs[6:] {
			clear(f.Type.Params)
			clear(f.Type.Results)
		}
		x := s.Insts[2]
		clear(x.Exports)
		clear(x.Module.Types)
		clear(x.Module.Funcs)
		clear(x.Module.Elems)
		clear(x.Module.Datas[0].Bytes)
		if !shape.Same(m, same) || !slices.Equal(long[:len(given)], given) || long[len(given)] != end {
			t.Error("what is given has changed", m, long)
		}
		if string(m.Datas[0].Bytes[:13]) != "passivebehind" || m.Exports[:len(m.Exports)+1][len(m.Exports)].Name != "behind" {
			t.Error("what lies behind has changed", m.Datas[0].Bytes[:13])
		}
	}
}

// P16.2: a module that an instance has already is instantiated again, and each instance has objects of its own.
func TestAgain(t *testing.T) {
	m, given := full()
	s := world()
	placed(t, s, m, given, usual, outcome{number: 2})
	placed(t, s, s.Insts[2].Module, given, usual, outcome{number: 3})
	other := world()
	placed(t, other, m, given, usual, outcome{number: 2})
	placed(t, other, m, given, usual, outcome{number: 3})
	if d := difference(s, other); d != "" {
		t.Error("there is a difference in", d)
	}
	a, b := s.Insts[2], s.Insts[3]
	for i, l := range [][]int{a.Tables, a.Funcs, a.Globals, a.Elems, a.Datas} {
		k := [][]int{b.Tables, b.Funcs, b.Globals, b.Elems, b.Datas}[i]
		asked := []int{2, 2, 4, 0, 0}[i]
		if !slices.Equal(l[:asked], k[:asked]) || slices.ContainsFunc(l[asked:], func(addr int) bool { return slices.Contains(k[asked:], addr) }) {
			t.Error("the instances have", l, "and", k)
		}
	}
	s.Tables[a.Tables[4]].L[0] = store.Zero(api.FuncRef)
	s.Elems[a.Elems[0]][0] = store.Zero(api.FuncRef)
	s.Datas[a.Datas[0]][0] = 'x'
	a.Module.Datas[0].Bytes[1] = 'x'
	if s.Tables[b.Tables[4]].L[0].Null || s.Elems[b.Elems[0]][0].Null || string(s.Datas[b.Datas[0]]) != "passive" || string(b.Module.Datas[0].Bytes) != "passive" || string(s.Datas[a.Datas[0]]) != "xassive" {
		t.Error("the instances share objects")
	}
}
