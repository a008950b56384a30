package store_test

import (
	"math"
	"slices"
	"testing"

	"bodkin/api"
	"bodkin/store"
)

// The types and functions are those of the chapter: this is built only if they are.
var (
	_ = struct {
		Type             api.FuncType
		Inst, Code, Host int
	}(store.Func{})
	_ = struct {
		Type api.TableType
		L    []api.Value
	}(store.Table{})
	_ = struct {
		L api.Limits
		B []byte
	}(store.Mem{})
	_ = struct {
		Type api.GlobalType
		V    api.Value
	}(store.Global{})
	_ = struct {
		Name       string
		Kind, Addr int
	}(store.Export{})
	_ = struct {
		Module                                     api.Module
		Funcs, Tables, Mems, Globals, Elems, Datas []int
		Exports                                    []store.Export
	}(store.Inst{})
	_ = struct {
		Host int
		Args []api.Value
	}(store.Call{})
	_ = struct {
		Funcs   []store.Func
		Tables  []*store.Table
		Mems    []*store.Mem
		Globals []*store.Global
		Elems   [][]api.Value
		Datas   [][]byte
		Insts   []*store.Inst
		Log     []store.Call
	}(store.Store{})

	_ func(t int) api.Value                                              = store.Zero
	_ func(m *store.Mem, at uint64, n int) ([]byte, api.Errno)           = (*store.Mem).Read
	_ func(m *store.Mem, at uint64, b []byte) api.Errno                  = (*store.Mem).Write
	_ func(m *store.Mem, at uint64, c byte, n uint64) api.Errno          = (*store.Mem).Fill
	_ func(m *store.Mem, to, from, n uint64) api.Errno                   = (*store.Mem).Copy
	_ func(m *store.Mem, to, from, n uint64, b []byte) api.Errno         = (*store.Mem).Init
	_ func(m *store.Mem, n uint64, most int) int                         = (*store.Mem).Grow
	_ func(t *store.Table, i uint64) (api.Value, api.Errno)              = (*store.Table).Get
	_ func(t *store.Table, i uint64, v api.Value) api.Errno              = (*store.Table).Set
	_ func(t *store.Table, n uint64, v api.Value) int                    = (*store.Table).Grow
	_ func(t *store.Table, at uint64, v api.Value, n uint64) api.Errno   = (*store.Table).Fill
	_ func(t *store.Table, to, from, n uint64, l []api.Value) api.Errno  = (*store.Table).Init
	_ func(t *store.Table, to, from, n uint64, x *store.Table) api.Errno = (*store.Table).Copy
)

// P13.1: the first value of each type, and of what is none.
func TestZero(t *testing.T) {
	for _, typ := range []int{0x7f, 0x7e, 0x7d, 0x7c, 0x7b} {
		if v := store.Zero(typ); v != (api.Value{Type: typ}) {
			t.Error("a number or a vector", typ, v)
		}
	}
	for _, typ := range []int{0x70, 0x6f} {
		if v := store.Zero(typ); v != (api.Value{Type: typ, Null: true}) {
			t.Error("a reference", typ, v)
		}
	}
	others := []int{-0x70, -0x6f, -0x7f, 0x70 + 256, 0x6f + 256, 0x70 + 1<<16, 0x70 + 1<<32, 0x6f + 1<<32, -0x10, -0x11, math.MaxInt, math.MinInt}
	for typ := -300; typ <= 300; typ++ {
		if !slices.Contains([]int{0x7f, 0x7e, 0x7d, 0x7c, 0x7b, 0x70, 0x6f}, typ) {
			others = append(others, typ)
		}
	}
	for _, typ := range others {
		if v := store.Zero(typ); v != (api.Value{Type: typ}) {
			t.Error("no type", typ, v)
		}
	}
}

// checkIs holds an error against the one that there must be.
func checkIs(t *testing.T, what string, got, want api.Errno) {
	t.Helper()
	if got != want {
		t.Error(what, "is", got, "and not", want)
	}
}

// P13.4: a memory that is nil, whatever else is handed in.
func TestNilMemory(t *testing.T) {
	var m *store.Mem
	for _, at := range []uint64{0, 1, 1 << 63, math.MaxUint64} {
		for _, n := range []int{0, 1, -1, math.MaxInt, math.MinInt} {
			b, e := m.Read(at, n)
			checkIs(t, "Read", e, api.ErrArg)
			if len(b) != 0 {
				t.Error("Read gives", b)
			}
			checkIs(t, "Fill", m.Fill(at, 7, uint64(n)), api.ErrArg)
			checkIs(t, "Copy", m.Copy(at, 0, uint64(n)), api.ErrArg)
			checkIs(t, "Copy", m.Copy(0, at, uint64(n)), api.ErrArg)
			checkIs(t, "Init", m.Init(at, 0, uint64(n), []byte{1}), api.ErrArg)
			checkIs(t, "Init of nothing", m.Init(0, at, uint64(n), nil), api.ErrArg)
			if got := m.Grow(uint64(n), n); got != 0 {
				t.Error("Grow is", got)
			}
			if got := m.Grow(at, math.MaxInt); got != 0 {
				t.Error("Grow is", got)
			}
		}
		checkIs(t, "Write", m.Write(at, []byte{1}), api.ErrArg)
		checkIs(t, "Write of nothing", m.Write(at, nil), api.ErrArg)
	}
}

// P13.4: a table that is nil, whatever else is handed in, and one that copies from it.
func TestNilTable(t *testing.T) {
	var none *store.Table
	some := &store.Table{L: values(1, 2)}
	for _, at := range []uint64{0, 1, 3, 1 << 63, math.MaxUint64} {
		v, e := none.Get(at)
		checkIs(t, "Get", e, api.ErrArg)
		if v != (api.Value{}) {
			t.Error("Get gives", v)
		}
		checkIs(t, "Set", none.Set(at, value(1)), api.ErrArg)
		for _, n := range []uint64{0, 1, 3, math.MaxUint64} {
			checkIs(t, "Fill", none.Fill(at, value(1), n), api.ErrArg)
			checkIs(t, "Init", none.Init(at, 0, n, values(1)), api.ErrArg)
			checkIs(t, "Init of nothing", none.Init(0, at, n, nil), api.ErrArg)
			checkIs(t, "Copy to nothing", none.Copy(at, 0, n, some), api.ErrArg)
			checkIs(t, "Copy from nothing", some.Copy(at, 0, n, none), api.ErrArg)
			checkIs(t, "Copy from nothing", some.Copy(0, at, n, none), api.ErrArg)
			checkIs(t, "Copy of nothing", none.Copy(at, 0, n, none), api.ErrArg)
			if got := none.Grow(n, value(1)); got != 0 {
				t.Error("Grow is", got)
			}
		}
	}
	if !slices.Equal(some.L, values(1, 2)) {
		t.Error("changed to", some.L)
	}
}
