package inst_test

import (
	"math"
	"testing"

	"bodkin/api"
	"bodkin/inst"
	"bodkin/run"
	"bodkin/store"
)

// unsound are changes after which a store is not sound.
var unsound = map[string]func(s *store.Store){
	"no functions":   func(s *store.Store) { s.Funcs = nil },
	"few functions":  func(s *store.Store) { s.Funcs = s.Funcs[:2] },
	"no tables":      func(s *store.Store) { s.Tables = nil },
	"nil tables":     func(s *store.Store) { clear(s.Tables) },
	"no memories":    func(s *store.Store) { s.Mems = nil },
	"nil memories":   func(s *store.Store) { clear(s.Mems) },
	"no globals":     func(s *store.Store) { s.Globals = nil },
	"nil globals":    func(s *store.Store) { clear(s.Globals) },
	"no segments":    func(s *store.Store) { s.Elems, s.Datas = nil, nil },
	"no instances":   func(s *store.Store) { s.Insts = nil },
	"nil instances":  func(s *store.Store) { clear(s.Insts) },
	"no whole pages": func(s *store.Store) { s.Mems[0].B, s.Mems[1].B = s.Mems[0].B[:70000], s.Mems[1].B[:5] },
	"strange functions": func(s *store.Store) {
		for i := range s.Funcs {
			s.Funcs[i] = store.Func{Type: s.Funcs[i].Type, Inst: i - 2, Code: 1 - i}
		}
	},
	"strange tables": func(s *store.Store) {
		for i, t := range s.Tables {
			t.L, t.Type.L = t.L[:1], api.Limits{Min: -5, Max: math.MinInt, Has: i == 0}
			t.L[0] = api.Value{Type: -1, Lo: math.MaxUint64}
		}
	},
	"strange memories": func(s *store.Store) {
		for _, m := range s.Mems {
			m.L = api.Limits{Min: math.MaxInt, Max: -1, Has: true}
		}
	},
	"strange globals": func(s *store.Store) {
		for i, g := range s.Globals {
			g.V = api.Value{Type: i - 5, Lo: math.MaxUint64 - uint64(i), Hi: 5, Null: i%3 == 0}
		}
	},
	"strange exports": func(s *store.Store) {
		s.Insts[0].Exports = []store.Export{{Name: "a", Kind: -5, Addr: -5}, {Name: "other", Kind: math.MaxInt, Addr: math.MaxInt}}
	},
}

// Rule 1: in a store that is not sound, the answers may be any, but each call ends, and does not panic. Beside an error there is no number.
func TestUnsound(t *testing.T) {
	g := &maker{sequence: 9}
	for name, change := range unsound {
		for range 40 {
			c := g.call(world())
			change(c.s)
			for kind := -1; kind < 5; kind++ {
				for addr := -1; addr < 20; addr++ {
					for _, i := range c.m.Imports {
						inst.Fits(c.s, inst.Extern{Kind: kind, Addr: addr}, i, c.m)
						inst.Fits(c.s, inst.Extern{Kind: kind, Addr: addr}, i, api.Module{})
					}
				}
			}
			for i := -1; i < 4; i++ {
				inst.Find(c.s, i, "other")
			}
			for range 2 {
				if got := c.do(); got.e != api.OK && got.number != 0 {
					t.Error(name, "is", got)
				}
			}
			if addr := inst.Host(c.s, api.FuncType{Params: []int{-1}}, 5); c.s.Funcs[addr].Host != 6 {
				t.Error(name, "has", addr)
			}
		}
	}
}

// Rule 1: a start function that leads nowhere.
func TestUnsoundStart(t *testing.T) {
	m := api.Module{Types: []api.FuncType{{}}, Imports: []api.Import{{}}, Start: 1}
	for _, f := range []store.Func{{}, {Inst: -1}, {Inst: 5}, {Code: -1}, {Host: -1}} {
		s := &store.Store{Funcs: []store.Func{f}, Insts: []*store.Inst{nil}}
		if got := instantiate(s, m, []inst.Extern{{}}, run.Limits{Fuel: 9, Depth: 9}); got.e != api.OK && got.number != 0 || got.e == api.OK && f.Host == 0 {
			t.Error(f, "is", got)
		}
	}
}
