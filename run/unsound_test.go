package run_test

import (
	"testing"

	"bodkin/api"
	"bodkin/run"
	"bodkin/store"
)

// unsound are changes after which a store is not sound.
var unsound = map[string]func(s *store.Store, inst *store.Inst){
	"no instances":              func(s *store.Store, _ *store.Inst) { s.Insts = nil },
	"no instance":               func(s *store.Store, _ *store.Inst) { s.Insts[1] = nil },
	"another instance":          func(s *store.Store, _ *store.Inst) { s.Insts[1] = s.Insts[0] },
	"no tables":                 func(s *store.Store, _ *store.Inst) { s.Tables = nil },
	"nil tables":                func(s *store.Store, _ *store.Inst) { clear(s.Tables) },
	"no memories":               func(s *store.Store, _ *store.Inst) { s.Mems = nil },
	"nil memories":              func(s *store.Store, _ *store.Inst) { clear(s.Mems) },
	"no globals":                func(s *store.Store, _ *store.Inst) { s.Globals = nil },
	"nil globals":               func(s *store.Store, _ *store.Inst) { clear(s.Globals) },
	"no segments of references": func(s *store.Store, _ *store.Inst) { s.Elems = nil },
	"no segments of bytes":      func(s *store.Store, _ *store.Inst) { s.Datas = nil },
	"few functions":             func(s *store.Store, _ *store.Inst) { s.Funcs = s.Funcs[:12] },
	"no list of functions":      func(_ *store.Store, inst *store.Inst) { inst.Funcs = nil },
	"no list of tables":         func(_ *store.Store, inst *store.Inst) { inst.Tables = nil },
	"no list of memories":       func(_ *store.Store, inst *store.Inst) { inst.Mems = nil },
	"no list of globals":        func(_ *store.Store, inst *store.Inst) { inst.Globals = nil },
	"no list of segments":       func(_ *store.Store, inst *store.Inst) { inst.Elems, inst.Datas = nil, nil },
	"negative addresses": func(_ *store.Store, inst *store.Inst) {
		for _, l := range [][]int{inst.Funcs, inst.Tables, inst.Mems, inst.Globals, inst.Elems, inst.Datas} {
			for i := range l {
				l[i] = -l[i]
			}
		}
	},
	"great addresses": func(_ *store.Store, inst *store.Inst) {
		for _, l := range [][]int{inst.Funcs, inst.Tables, inst.Mems, inst.Globals, inst.Elems, inst.Datas} {
			for i := range l {
				l[i] += 1 << 62
			}
		}
	},
	"no module":    func(_ *store.Store, inst *store.Inst) { inst.Module = api.Module{} },
	"no types":     func(_ *store.Store, inst *store.Inst) { inst.Module.Types = nil },
	"no bodies":    func(_ *store.Store, inst *store.Inst) { inst.Module.Funcs = nil },
	"not valid":    func(_ *store.Store, inst *store.Inst) { inst.Module.Funcs[0].Body = code("drop") },
	"no such code": func(s *store.Store, _ *store.Inst) { each(s, func(f *store.Func) { f.Code += 100 }) },
	"less than no code": func(s *store.Store, _ *store.Inst) {
		each(s, func(f *store.Func) { f.Code -= 100 })
	},
	"no such instance": func(s *store.Store, _ *store.Inst) { each(s, func(f *store.Func) { f.Inst += 100 }) },
	"less than no instance": func(s *store.Store, _ *store.Inst) {
		each(s, func(f *store.Func) { f.Inst -= 100 })
	},
	"other codes":     func(s *store.Store, _ *store.Inst) { each(s, func(f *store.Func) { f.Code = 10 - f.Code }) },
	"negative hosts":  func(s *store.Store, _ *store.Inst) { each(s, func(f *store.Func) { f.Host = -f.Host }) },
	"no types at all": func(s *store.Store, _ *store.Inst) { each(s, func(f *store.Func) { f.Type = api.FuncType{} }) },
	"hosts only":      func(s *store.Store, _ *store.Inst) { each(s, func(f *store.Func) { f.Host = 1 }) },
	"strange types": func(s *store.Store, _ *store.Inst) {
		each(s, func(f *store.Func) { f.Type = api.FuncType{Results: []int{-1, 1 << 40}} })
	},
	"strange elements": func(s *store.Store, _ *store.Inst) {
		for _, t := range s.Tables {
			for i := range t.L {
				t.L[i] = api.Value{Type: -i, Lo: 1<<64 - 1, Hi: 1}
			}
		}
	},
	"strange values": func(s *store.Store, _ *store.Inst) {
		for _, g := range s.Globals {
			g.V = api.Value{Type: -5, Lo: 1<<64 - 1, Hi: 1<<64 - 1, Null: true}
		}
	},
	"no whole pages": func(s *store.Store, _ *store.Inst) { s.Mems[1].B = s.Mems[1].B[:999] },
	"a body in itself": func(_ *store.Store, inst *store.Inst) {
		body := []api.Instr{{Op: 0x02}}
		body[0].Body = body
		inst.Module.Funcs[0].Body = body
	},
}

// each changes all functions of a store.
func each(s *store.Store, change func(f *store.Func)) {
	for i := range s.Funcs {
		change(&s.Funcs[i])
	}
}

// Rule 1: in a store that is not sound, Invoke may answer what it likes, but it ends, and does not panic. Beside an error there is nothing.
func TestUnsound(t *testing.T) {
	g := &maker{sequence: 3}
	for name, change := range unsound {
		failed := 0
		for range 40 {
			s, inst := built(t, g.module(2))
			x := g.trial(s, inst)
			change(s, inst)
			for f := -1; f <= len(s.Funcs); f++ {
				l := x.l
				l.Fuel = 100
				got := trial{f, x.args, l}.run(s, l)
				if len(got.out) > 0 && got.e != api.OK {
					t.Error(name, "leaves", got)
				}
				failed += min(1, int(got.e))
				for typ := range 256 {
					run.Fits(s, api.Value{Type: typ, Lo: 1<<64 - 1, Hi: 1}, typ)
				}
			}
		}
		if failed == 0 {
			t.Error(name, "does not fail")
		}
	}
}

// Rule 1: lists that lead nowhere in a store that has nothing else.
func TestNothingButFunctions(t *testing.T) {
	for _, f := range []store.Func{{}, {Inst: -1}, {Code: 1}, {Host: -1}, {Inst: 1 << 62, Code: 1 << 62}} {
		s := &store.Store{Funcs: []store.Func{f}, Insts: []*store.Inst{nil}}
		for range 2 {
			if got := invoke(s, 0, nil, usual); f.Host == 0 && got.e == api.OK {
				t.Error(f, "is", got)
			}
			s.Insts[0] = &store.Inst{}
		}
	}
}
