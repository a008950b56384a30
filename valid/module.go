package valid

import (
	"slices"

	"bodkin/api"
	"bodkin/ops"
)

// all tells whether something is true of all elements of a list.
func all[T any](l []T, is func(T) bool) bool {
	for _, x := range l {
		if !is(x) {
			return false
		}
	}
	return true
}

// fit tells whether all parts of a module are valid.
func (s *spaces) fit(m api.Module) bool {
	return all(s.tables, isTable) &&
		all(s.mems, isMem) && len(s.mems) <= 1 &&
		all(m.Globals, s.isGlobal) &&
		all(m.Exports, s.isExport) && areNamedApart(m.Exports) &&
		s.isStart(m.Start) &&
		all(m.Elems, s.isElem) &&
		all(m.Datas, s.isData) &&
		all(m.Funcs, s.isFunc)
}

// isRange tells whether limits have something between them.
func isRange(l api.Limits) bool { return !l.Has || l.Min <= l.Max }

// isTable tells whether a table's type is valid.
func isTable(t api.TableType) bool { return isRange(t.L) }

// isMem tells whether a memory's limits are valid. Without a maximum, Max is 0.
func isMem(l api.Limits) bool {
	return isRange(l) && l.Min <= api.MaxPages && l.Max <= api.MaxPages
}

// isGlobal tells whether a global of the module's own is valid.
func (s *spaces) isGlobal(v api.Var) bool { return s.isConstant(v.Init, v.Type.Type) }

// isExport tells whether there is what is exported.
func (s *spaces) isExport(e api.Export) bool {
	end := 0
	switch e.Kind {
	case api.Func:
		end = len(s.funcs)
	case api.Table:
		end = len(s.tables)
	case api.Mem:
		end = len(s.mems)
	case api.Global:
		end = len(s.globals)
	}
	return e.Index < end
}

// areNamedApart tells whether no two exports have the same name.
func areNamedApart(l []api.Export) bool {
	names := map[string]struct{}{}
	for _, e := range l {
		names[e.Name] = struct{}{}
	}
	return len(names) == len(l)
}

// isStart tells whether there is a start function, if one is named, and it neither takes nor leaves anything.
func (s *spaces) isStart(start int) bool {
	if start == 0 {
		return true
	}
	if start > len(s.funcs) {
		return false
	}
	f := s.funcs[start-1]
	return len(f.Params) == 0 && len(f.Results) == 0
}

// isElem tells whether a segment of references is valid.
func (s *spaces) isElem(e api.Elem) bool {
	for _, init := range e.Init {
		if !s.isConstant(init, e.Ref) {
			return false
		}
	}
	if e.Mode != api.Active {
		return true
	}
	return e.Table < len(s.tables) && s.tables[e.Table].Ref == e.Ref && s.isConstant(e.Offset, api.I32)
}

// isData tells whether a segment of bytes is valid.
func (s *spaces) isData(d api.Data) bool {
	return d.Mode != api.Active || d.Mem < len(s.mems) && s.isConstant(d.Offset, api.I32)
}

// isFunc tells whether a function of the module's own is valid.
func (s *spaces) isFunc(c api.Code) bool {
	f := s.types[c.Type]
	t := &typing{spaces: s, locals: slices.Concat(f.Params, c.Locals)}
	t.sequence(c.Body, nil, f.Results, f.Results)
	return !t.wrong
}

// isConstant tells whether instructions are constant, and leave one value of a type.
func (s *spaces) isConstant(l []api.Instr, typ int) bool {
	if !all(l, s.isConstantInstr) {
		return false
	}
	t := &typing{spaces: s}
	t.sequence(l, nil, []int{typ}, nil)
	return !t.wrong
}

// isConstantInstr tells whether an instruction may occur where no function is run.
func (s *spaces) isConstantInstr(in api.Instr) bool {
	switch ops.Imm(in.Op) {
	case ops.ImmI32, ops.ImmI64, ops.ImmF32, ops.ImmF64, ops.ImmV128, ops.ImmRef:
		return true
	}
	switch in.Op {
	case opRefFunc:
		return true
	case opGlobalGet:
		return in.A < s.imported && !s.globals[in.A].Mut
	}
	return false
}
