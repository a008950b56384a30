package inst_test

import (
	"math"
	"testing"

	"bodkin/api"
	"bodkin/inst"
	"bodkin/store"
)

// kinds are all of them, and some numbers that are none.
var kinds = []int{api.Func, api.Table, api.Mem, api.Global, 4, 5, -1, math.MinInt, math.MaxInt}

// asking are imports that ask for something of a kind.
func funcImport(typ int) api.Import { return api.Import{Kind: api.Func, Type: typ} }
func tableImport(text string) api.Import {
	return api.Import{Kind: api.Table, Table: tableType(text)}
}
func memImport(text string) api.Import { return api.Import{Kind: api.Mem, Mem: limits(text)} }
func globalImport(text string) api.Import {
	return api.Import{Kind: api.Global, Global: globalType(text)}
}

// fitting are imports of each kind, with what fits them in world.
var fitting = []struct {
	x inst.Extern
	t api.Import
}{
	{inst.Extern{Kind: api.Func, Addr: 1}, funcImport(1)},
	{inst.Extern{Kind: api.Table, Addr: 1}, tableImport("extern 2")},
	{inst.Extern{Kind: api.Mem, Addr: 1}, memImport("1")},
	{inst.Extern{Kind: api.Global, Addr: 1}, globalImport("mut i32")},
}

// typed is a module with the types of the functions of world.
func typed() api.Module {
	m := api.Module{}
	for _, t := range worldTypes {
		m.Types = append(m.Types, funcType(t))
	}
	return m
}

// P16.1: what fits has the kind, and exists.
func TestFitsKinds(t *testing.T) {
	s, m := world(), typed()
	for i, asked := range fitting {
		for j, given := range fitting {
			if got := inst.Fits(s, given.x, asked.t, m); got != (i == j) {
				t.Error(given.x, "for", asked.t, "is", got)
			}
		}
		for _, kind := range kinds {
			x, want := asked.t, kind == asked.x.Kind
			x.Kind = kind
			if got := inst.Fits(s, inst.Extern{Kind: kind, Addr: asked.x.Addr}, asked.t, m); got != want {
				t.Error("the kind", kind, "for", asked.t, "is", got)
			}
			if got := inst.Fits(s, asked.x, x, m); got != want {
				t.Error(asked.x, "for the kind", kind, "is", got)
			}
			if kind < 0 || kind > 3 {
				if inst.Fits(s, inst.Extern{Kind: kind, Addr: asked.x.Addr}, x, m) || inst.Fits(s, inst.Extern{Kind: kind}, api.Import{Kind: kind}, m) {
					t.Error("something is of the kind", kind)
				}
			}
		}
		for _, s := range []*store.Store{nil, {}} {
			if inst.Fits(s, asked.x, asked.t, m) {
				t.Error(asked.x, "fits", asked.t, "where there is nothing")
			}
		}
	}
}

// P16.1: addresses of each kind, to the end of the lists and beyond.
func TestFitsAddresses(t *testing.T) {
	s, m := world(), typed()
	// All objects of a kind are the same here.
	for i := range s.Funcs {
		s.Funcs[i].Type = funcType(worldTypes[1])
	}
	for i := range s.Tables {
		s.Tables[i] = s.Tables[1]
	}
	for i := range s.Mems {
		s.Mems[i] = s.Mems[1]
	}
	for i := range s.Globals {
		s.Globals[i] = s.Globals[1]
	}
	for i, end := range []int{len(s.Funcs), len(s.Tables), len(s.Mems), len(s.Globals)} {
		for addr := range end {
			if !inst.Fits(s, inst.Extern{Kind: i, Addr: addr}, fitting[i].t, m) {
				t.Error("the address", addr, "does not fit", fitting[i].t)
			}
		}
		for _, addr := range []int{-1, -end, end, end + 1, math.MinInt, math.MaxInt, 1 << 32} {
			if inst.Fits(s, inst.Extern{Kind: i, Addr: addr}, fitting[i].t, m) {
				t.Error("the address", addr, "fits", fitting[i].t)
			}
		}
	}
	clear(s.Tables)
	clear(s.Mems)
	clear(s.Globals)
	for i := 1; i < 4; i++ {
		if inst.Fits(s, fitting[i].x, fitting[i].t, m) {
			t.Error("nothing fits", fitting[i].t)
		}
	}
}

// P16.1: a function's type is that which is asked for if the lists are the same, whatever their place.
func TestFitsFuncs(t *testing.T) {
	texts := []string{"->", "i32 ->", "-> i32", "i32 -> i32", "i64 ->", "i32 i32 ->", "-> i32 i32", "i32 i64 ->", "i64 i32 ->", "-> i32 i64", "-> i64 i32", "i32 -> i64", "i64 -> i32", "func -> extern", "extern -> func", "i32 i64 f32 ->", "i32 i64 -> f32", "i32 -> i64 f32", "-> i32 i64 f32"}
	s, m := world(), api.Module{}
	s.Funcs = nil
	for i := range texts {
		s.Funcs = append(s.Funcs, store.Func{Type: funcType(texts[len(texts)-1-i]), Inst: i, Code: i, Host: i % 3})
		m.Types = append(m.Types, funcType(texts[i]))
	}
	m.Types = append(m.Types, m.Types...)
	for addr := range s.Funcs {
		for typ := range m.Types {
			want := texts[len(texts)-1-addr] == texts[typ%len(texts)]
			if got := inst.Fits(s, inst.Extern{Kind: api.Func, Addr: addr}, funcImport(typ), m); got != want {
				t.Error("the function", addr, "for the type", typ, "is", got)
			}
		}
		for _, typ := range []int{-1, len(m.Types), len(m.Types) + 1, math.MinInt, math.MaxInt} {
			if inst.Fits(s, inst.Extern{Kind: api.Func, Addr: addr}, funcImport(typ), m) {
				t.Error("the function", addr, "fits the type", typ)
			}
		}
	}
	// Lists without elements may be nil, or not.
	m.Types[0] = api.FuncType{Params: []int{}, Results: []int{}}
	if !inst.Fits(s, inst.Extern{Kind: api.Func, Addr: len(texts) - 1}, funcImport(0), m) {
		t.Error("nil is not the same as empty")
	}
	if inst.Fits(s, inst.Extern{Kind: api.Func, Addr: len(texts) - 1}, funcImport(0), api.Module{}) {
		t.Error("a function fits a type that does not exist")
	}
}

// allLimits are limits of small numbers.
func allLimits() []api.Limits {
	var out []api.Limits
	for least := range 5 {
		out = append(out, api.Limits{Min: least})
		for most := range 6 {
			out = append(out, api.Limits{Min: least, Max: most, Has: true})
		}
	}
	return out
}

// greatest is how great something with limits may get.
func greatest(l api.Limits) float64 {
	if l.Has {
		return float64(l.Max)
	}
	return math.Inf(1)
}

// satisfied is another way to tell whether limits are satisfied: an object that has n elements, and may get as many as its own limits say, never has fewer or more than are asked for.
func satisfied(n int, have, want api.Limits) bool {
	return n >= want.Min && greatest(have) <= greatest(want)
}

// P16.1: the limits of tables and of memories. How many elements or pages there are counts, and not the Min of the object.
func TestFitsLimits(t *testing.T) {
	m := api.Module{}
	for n := range 5 {
		for _, have := range allLimits() {
			s := &store.Store{
				Tables: []*store.Table{{Type: api.TableType{Ref: api.FuncRef, L: have}, L: make([]api.Value, n)}},
				Mems:   []*store.Mem{{L: have, B: make([]byte, n*api.PageSize)}},
			}
			for _, want := range allLimits() {
				is := satisfied(n, have, want)
				if got := inst.Fits(s, inst.Extern{Kind: api.Table}, api.Import{Kind: api.Table, Table: api.TableType{Ref: api.FuncRef, L: want}}, m); got != is {
					t.Fatal("a table of", n, "elements and", have, "for", want, "is", got)
				}
				if got := inst.Fits(s, inst.Extern{Kind: api.Mem}, api.Import{Kind: api.Mem, Mem: want}, m); got != is {
					t.Fatal("a memory of", n, "pages and", have, "for", want, "is", got)
				}
			}
		}
	}
}

// P16.1: some limits by hand, also the greatest ones.
func TestFitsLimitsByHand(t *testing.T) {
	for _, c := range []struct {
		n          int
		have, want string
		is         bool
	}{
		{1, "1", "1", true},
		{1, "1", "2", false},
		{2, "1", "2", true},
		{2, "1", "0", true},
		{2, "1", "3", false},
		{1, "1-2", "1", true},
		{1, "1-2", "1-2", true},
		{1, "1-2", "1-3", true},
		{1, "1-2", "1-1", false},
		{1, "1", "1-2", false},
		{1, "1", "1-0xffffffff", false},
		{1, "1-0xffffffff", "1-0xffffffff", true},
		{1, "1-0xffffffff", "1-0xfffffffe", false},
		{1, "1-0xfffffffe", "1-0xffffffff", true},
		{1, "1-2", "0xffffffff-0xffffffff", false},
		{0, "0-0", "0-0", true},
		{0, "0-0", "0", true},
		{0, "0", "0", true},
	} {
		s := &store.Store{Mems: []*store.Mem{{L: limits(c.have), B: make([]byte, c.n*api.PageSize)}}}
		if got := inst.Fits(s, inst.Extern{Kind: api.Mem}, memImport(c.want), api.Module{}); got != c.is {
			t.Error("a memory of", c.n, "pages and", c.have, "for", c.want, "is", got)
		}
		s.Tables = []*store.Table{{Type: tableType("extern " + c.have), L: make([]api.Value, c.n)}}
		if got := inst.Fits(s, inst.Extern{Kind: api.Table}, tableImport("extern "+c.want), api.Module{}); got != c.is {
			t.Error("a table of", c.n, "elements and", c.have, "for", c.want, "is", got)
		}
		if inst.Fits(s, inst.Extern{Kind: api.Table}, tableImport("func "+c.want), api.Module{}) {
			t.Error("a table of others fits", c.want)
		}
	}
	// A part of a page is no page.
	s := &store.Store{Mems: []*store.Mem{{B: make([]byte, 2*api.PageSize-1)}}}
	if !inst.Fits(s, inst.Extern{Kind: api.Mem}, memImport("1"), api.Module{}) || inst.Fits(s, inst.Extern{Kind: api.Mem}, memImport("2"), api.Module{}) {
		t.Error("a part of a page is counted")
	}
}

// P16.1: a table has the type of references that is asked for, and a global the type, and can be changed or not, as is asked for.
func TestFitsTypes(t *testing.T) {
	for _, have := range valueTypes {
		for _, want := range valueTypes {
			for i := range 4 {
				x, y := api.GlobalType{Type: have, Mut: i%2 == 0}, api.GlobalType{Type: want, Mut: i/2 == 0}
				s := &store.Store{Globals: []*store.Global{{Type: x, V: store.Zero(have)}}}
				if got := inst.Fits(s, inst.Extern{Kind: api.Global}, api.Import{Kind: api.Global, Global: y}, api.Module{}); got != (x == y) {
					t.Error("a global of", x, "for", y, "is", got)
				}
			}
			s := &store.Store{Tables: []*store.Table{{Type: api.TableType{Ref: have}}}}
			if got := inst.Fits(s, inst.Extern{Kind: api.Table}, api.Import{Kind: api.Table, Table: api.TableType{Ref: want}}, api.Module{}); got != (have == want) {
				t.Error("a table of", have, "for", want, "is", got)
			}
		}
	}
}
