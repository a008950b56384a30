package run

import (
	"bodkin/api"
	"bodkin/flat"
	"bodkin/store"
)

// mem is the memory of the function that has been called last.
func (x *machine) mem() *store.Mem { return x.Mems[x.frame().Mems[0]] }

// memory does an instruction on a memory or on a segment of bytes that is no load and no store.
func (x *machine) memory(in *flat.Ins) api.Errno {
	// This one may be done where there is no memory.
	if in.Op == opDataDrop {
		x.Datas[x.frame().Datas[in.A]] = nil
		return api.OK
	}
	m := x.mem()
	switch in.Op {
	case opMemorySize:
		x.putI32(len(m.B) / api.PageSize)
		return api.OK
	case opMemoryGrow:
		x.putI32(m.Grow(x.number(), x.limits.Pages))
		return api.OK
	}
	l := x.take(3)
	to, from, n := l[0].Lo, l[1].Lo, l[2].Lo
	switch in.Op {
	case opMemoryFill:
		return m.Fill(to, byte(from), n)
	case opMemoryCopy:
		return m.Copy(to, from, n)
	}
	return m.Init(to, from, n, x.Datas[x.frame().Datas[in.A]])
}
