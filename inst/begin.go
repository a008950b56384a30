package inst

import (
	"bodkin/api"
	"bodkin/run"
	"bodkin/store"
)

// begin does what an instance does as soon as it exists: how many steps its start took.
func begin(s *store.Store, inst *store.Inst, l run.Limits) (int, api.Errno) {
	if e := writeElems(s, inst); e != api.OK {
		return 0, e
	}
	if e := writeDatas(s, inst); e != api.OK {
		return 0, e
	}
	if inst.Module.Start == 0 {
		return 0, api.OK
	}
	_, steps, e := run.Invoke(s, inst.Funcs[inst.Module.Start-1], nil, l)
	return steps, e
}

// writeElems copies the active segments of references into their tables, up to the first one that does not fit.
func writeElems(s *store.Store, inst *store.Inst) api.Errno {
	for i, x := range inst.Module.Elems {
		if x.Mode != api.Active {
			continue
		}
		l := &s.Elems[inst.Elems[i]]
		t := s.Tables[inst.Tables[x.Table]]
		if e := t.Init(value(s, inst, x.Offset).Lo, 0, uint64(len(*l)), *l); e != api.OK {
			return e
		}
		*l = nil
	}
	return api.OK
}

// writeDatas copies the active segments of bytes into the memory, up to the first one that does not fit.
func writeDatas(s *store.Store, inst *store.Inst) api.Errno {
	for i, x := range inst.Module.Datas {
		if x.Mode != api.Active {
			continue
		}
		b := &s.Datas[inst.Datas[i]]
		m := s.Mems[inst.Mems[x.Mem]]
		if e := m.Write(value(s, inst, x.Offset).Lo, *b); e != api.OK {
			return e
		}
		*b = nil
	}
	return api.OK
}
