package inst_test

import (
	"math"
	"slices"
	"testing"

	"bodkin/api"
	"bodkin/inst"
	"bodkin/run"
	"bodkin/store"
	"bodkin/valid"
)

// fault is something wrong with a call, and the error for it.
type fault struct {
	what string
	make func(c *call)
	e    api.Errno
}

// call is what Instantiate gets.
type call struct {
	s     *store.Store
	m     api.Module
	given []inst.Extern
	l     run.Limits
}

// newCall is one without a fault, which asks for something of each kind and has something of its own of each kind. It has the memory of its own, if it does not ask for one.
func newCall(mem bool) *call {
	c := &call{s: world(), m: typed(), l: usual}
	for i, f := range fitting {
		if i == api.Mem && !mem {
			c.m.Mems = []api.Limits{limits("4")}
			continue
		}
		c.m.Imports = append(c.m.Imports, f.t)
		c.given = append(c.given, f.x)
	}
	c.m.Funcs = []api.Code{{Body: code("nop i32.const:0 i32.const:7 i32.store:2,0")}}
	c.m.Tables = []api.TableType{tableType("func 1"), tableType("func 10000")}
	c.m.Globals = []api.Var{{Type: globalType("mut func"), Init: code("ref.func:1")}}
	c.m.Exports = []api.Export{{Name: "f", Index: 1}}
	c.m.Elems = []api.Elem{{Ref: api.FuncRef, Table: 1, Offset: code("i32.const:0"), Init: codes("ref.func:1")}}
	c.m.Datas = []api.Data{{Offset: code("i32.const:1"), Bytes: []byte("abc")}}
	c.m.Start = 2
	return c
}

// do calls Instantiate.
func (c *call) do() outcome { return instantiate(c.s, c.m, c.given, c.l) }

// faults are all that can be wrong, in the order of P16.2.
var faults = []fault{
	{"no store", func(c *call) { c.s = nil }, api.ErrArg},
	{"fuel", func(c *call) { c.l.Fuel = -1 }, api.ErrArg},
	{"depth", func(c *call) { c.l.Depth = -1 }, api.ErrArg},
	{"pages", func(c *call) { c.l.Pages = math.MinInt }, api.ErrArg},
	{"not well-formed", func(c *call) { c.m.Globals[0].Type.Type = 1 }, api.ErrArg},
	{"not valid", func(c *call) { c.m.Funcs[0].Body = code("drop") }, api.ErrInvalid},
	{"start", func(c *call) { c.m.Start = 3 }, api.ErrInvalid},
	{"too few", func(c *call) { c.given = c.given[:len(c.given)-1] }, api.ErrLink},
	{"too many", func(c *call) { c.given = append(slices.Clone(c.given), c.given[0], c.given[1]) }, api.ErrLink},
	{"another address", func(c *call) { c.given[0].Addr = 0 }, api.ErrLink},
	{"another kind", func(c *call) { c.given[1].Kind = api.Func }, api.ErrLink},
	{"no address", func(c *call) { c.given[1].Addr = -1 }, api.ErrLink},
	{"another global", func(c *call) { c.given[len(c.given)-1].Addr = 2 }, api.ErrLink},
	{"a table", func(c *call) { c.m.Tables[1].L.Min = 10001 }, api.ErrRoom},
	{"a memory", func(c *call) { c.m.Mems[0].Min = c.l.Pages + 1 }, api.ErrRoom},
}

// P16.2: each error, and of two of them the first one. Nothing is changed, and no number is given.
func TestErrors(t *testing.T) {
	for i, a := range faults {
		for _, b := range faults[i:] {
			c := newCall(false)
			b.make(c)
			a.make(c)
			if c.s == nil {
				if got := c.do(); got != (outcome{e: a.e}) {
					t.Error(a.what, "and", b.what, "is", got, "and not", int(a.e))
				}
				continue
			}
			before := cloned(c.s)
			if got := c.do(); got != (outcome{e: a.e}) {
				t.Error(a.what, "and", b.what, "is", got, "and not", int(a.e))
			}
			if d := difference(c.s, before); d != "" {
				t.Error(a.what, "and", b.what, "changes", d)
			}
		}
	}
}

// P16.2: all faults from one on at once.
func TestManyErrors(t *testing.T) {
	for i := range faults {
		c := newCall(false)
		for _, f := range slices.Backward(faults[i:]) {
			f.make(c)
		}
		if got := c.do(); got != (outcome{e: faults[i].e}) {
			t.Error("from", faults[i].what, "on it is", got)
		}
	}
}

// P16.2: without a fault there is no error, with the memory imported or not.
func TestNoErrors(t *testing.T) {
	for _, mem := range []bool{false, true} {
		c := newCall(mem)
		placed(t, c.s, c.m, c.given, c.l, outcome{2, 4, 0})
		placed(t, c.s, c.m, c.given, c.l, outcome{3, 4, 0})
	}
	s := &store.Store{}
	placed(t, s, api.Module{}, nil, run.Limits{}, outcome{})
	placed(t, s, api.Module{}, []inst.Extern{}, run.Limits{}, outcome{1, 0, 0})
	want := &store.Store{Insts: []*store.Inst{{}, {}}}
	if d := difference(s, want); d != "" {
		t.Error("nothing in an empty store changes", d)
	}
}

// P16.2: ErrLink for whatever does not fit, one at a time.
func TestLink(t *testing.T) {
	for i := range fitting {
		for _, x := range []inst.Extern{{}, {Kind: i, Addr: -1}, {Kind: i, Addr: 100}, {Kind: i, Addr: 0}, {Kind: (i + 1) % 4, Addr: 1}, {Kind: -1, Addr: 1}, {Kind: 4, Addr: 1}} {
			c := newCall(true)
			want := api.OK
			if c.given[i] = x; !inst.Fits(c.s, x, fitting[i].t, c.m) {
				want = api.ErrLink
			}
			if got := c.do(); got.e != want {
				t.Error(x, "for", fitting[i].t, "is", got)
			}
		}
	}
	c := newCall(true)
	c.given[0], c.given[1] = c.given[1], c.given[0]
	if got := c.do(); got != (outcome{e: api.ErrLink}) {
		t.Error("in another order it is", got)
	}
	c.given[0], c.given[1] = c.given[1], c.given[0]
	for n := range 4 {
		c.given = c.given[:n]
		if got := c.do(); got != (outcome{e: api.ErrLink}) {
			t.Error("with", n, "given it is", got)
		}
	}
	c.m = api.Module{}
	c.given = []inst.Extern{{}}
	if got := c.do(); got != (outcome{e: api.ErrLink}) {
		t.Error("with something that is not asked for it is", got)
	}
}

// P16.2: only what the module has of its own must have room, and up to the limits there is room.
func TestRoom(t *testing.T) {
	for _, c := range []struct {
		tables []string
		mems   []string
		pages  int
		want   api.Errno
	}{
		{[]string{"func 10000"}, nil, 0, api.OK},
		{[]string{"func 10001"}, nil, 9, api.ErrRoom},
		{[]string{"extern 10000-0xffffffff", "extern 0-0xffffffff"}, nil, 0, api.OK},
		{[]string{"extern 1", "func 2", "func 0xffffffff"}, nil, 9, api.ErrRoom},
		{[]string{"extern 10001-10001", "func 2"}, nil, 9, api.ErrRoom},
		{nil, []string{"0"}, 0, api.OK},
		{nil, []string{"0-65536"}, 0, api.OK},
		{nil, []string{"1"}, 0, api.ErrRoom},
		{nil, []string{"1"}, 1, api.OK},
		{nil, []string{"2"}, 1, api.ErrRoom},
		{nil, []string{"5-5"}, 4, api.ErrRoom},
		{nil, []string{"5"}, 5, api.OK},
		{nil, []string{"5"}, math.MaxInt, api.OK},
		{nil, []string{"65536"}, 65535, api.ErrRoom},
		{nil, []string{"65537"}, math.MaxInt, api.ErrInvalid},
		{[]string{"func 1"}, []string{"3"}, 2, api.ErrRoom},
	} {
		m := api.Module{}
		for _, text := range c.tables {
			m.Tables = append(m.Tables, tableType(text))
		}
		for _, text := range c.mems {
			m.Mems = append(m.Mems, limits(text))
		}
		s, want := world(), outcome{e: c.want}
		if c.want == api.OK {
			want.number = 2
		}
		if got := instantiate(s, m, nil, run.Limits{Pages: c.pages}); got != want {
			t.Error(c.tables, c.mems, "within", c.pages, "is", got)
		}
		if d := difference(s, world()); (d == "") != (c.want != api.OK) {
			t.Error(c.tables, c.mems, "within", c.pages, "changes", d)
		}
	}
	// What is imported is there already.
	s := world()
	s.Tables[1].L = make([]api.Value, 10001)
	m := api.Module{Imports: []api.Import{tableImport("extern 10001"), memImport("2")}}
	given := []inst.Extern{{Kind: api.Table, Addr: 1}, {Kind: api.Mem}}
	if got := instantiate(s, m, given, run.Limits{Pages: 1}); got != (outcome{number: 2}) {
		t.Error("with a great table and a great memory that are imported it is", got)
	}
}

// P16.2: the error of Check, for modules without a pattern.
func TestCheckFirst(t *testing.T) {
	g := &maker{sequence: 5}
	bad := 0
	for range 400 {
		c := g.call(world())
		for range 1 + g.next(2) {
			g.spoil(&c.m)
		}
		e := valid.Check(c.m)
		if e == api.OK {
			continue
		}
		bad++
		before := cloned(c.s)
		if got := c.do(); got != (outcome{e: e}) {
			t.Error("it is", got, "and not", int(e))
		}
		if d := difference(c.s, before); d != "" {
			t.Error("it changes", d)
		}
	}
	if bad < 100 {
		t.Error("only", bad, "modules are not valid")
	}
}
