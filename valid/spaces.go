package valid

import "bodkin/api"

// spaces are what the indices of a module refer to: of each kind, what is imported, and then its own.
type spaces struct {
	types    []api.FuncType
	funcs    []api.FuncType
	tables   []api.TableType
	mems     []api.Limits
	globals  []api.GlobalType
	imported int // the number of globals that are imported
	elems    []api.Elem
	datas    []api.Data
	declared map[int]struct{} // the indices of functions that a body may refer to
}

// haveTypes tells whether the types of all functions exist.
func haveTypes(m api.Module) bool {
	end := len(m.Types)
	return all(m.Imports, func(i api.Import) bool { return i.Kind != api.Func || i.Type < end }) &&
		all(m.Funcs, func(c api.Code) bool { return c.Type < end })
}

// spacesOf is the index spaces of a module whose functions have types.
func spacesOf(m api.Module) *spaces {
	s := &spaces{types: m.Types, elems: m.Elems, datas: m.Datas, declared: declared(m)}
	for _, i := range m.Imports {
		switch i.Kind {
		case api.Func:
			s.funcs = append(s.funcs, m.Types[i.Type])
		case api.Table:
			s.tables = append(s.tables, i.Table)
		case api.Mem:
			s.mems = append(s.mems, i.Mem)
		case api.Global:
			s.globals = append(s.globals, i.Global)
		}
	}
	s.imported = len(s.globals)
	for _, c := range m.Funcs {
		s.funcs = append(s.funcs, m.Types[c.Type])
	}
	s.tables = append(s.tables, m.Tables...)
	s.mems = append(s.mems, m.Mems...)
	for _, v := range m.Globals {
		s.globals = append(s.globals, v.Type)
	}
	return s
}

// declared are the indices of functions that occur outside of functions, other than as the start.
func declared(m api.Module) map[int]struct{} {
	out := map[int]struct{}{}
	for _, e := range m.Exports {
		if e.Kind == api.Func {
			out[e.Index] = struct{}{}
		}
	}
	var inits [][]api.Instr
	for _, v := range m.Globals {
		inits = append(inits, v.Init)
	}
	for _, e := range m.Elems {
		inits = append(inits, e.Init...)
	}
	for _, init := range inits {
		for _, in := range init {
			if in.Op == opRefFunc {
				out[in.A] = struct{}{}
			}
		}
	}
	return out
}
