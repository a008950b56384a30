package run

import (
	"bodkin/api"
	"bodkin/flat"
	"bodkin/store"
)

// tableOf is a table of the function that has been called last.
func (x *machine) tableOf(i int) *store.Table { return x.Tables[x.frame().Tables[i]] }

// table does an instruction on tables or on a segment of references.
func (x *machine) table(in *flat.Ins) api.Errno {
	switch in.Op {
	case opTableGet:
		v, e := x.tableOf(in.A).Get(x.number())
		if e != api.OK {
			return e
		}
		x.put(v)
	case opTableSet:
		l := x.take(2)
		return x.tableOf(in.A).Set(l[0].Lo, l[1])
	case opTableGrow:
		l := x.take(2)
		x.putI32(x.tableOf(in.A).Grow(l[1].Lo, l[0]))
	case opTableSize:
		x.putI32(len(x.tableOf(in.A).L))
	case opElemDrop:
		x.Elems[x.frame().Elems[in.A]] = nil
	default:
		return x.manyElements(in)
	}
	return api.OK
}

// manyElements does an instruction that writes a range of a table.
func (x *machine) manyElements(in *flat.Ins) api.Errno {
	l := x.take(3)
	to, n := l[0].Lo, l[2].Lo
	switch in.Op {
	case opTableFill:
		return x.tableOf(in.A).Fill(to, l[1], n)
	case opTableCopy:
		return x.tableOf(in.A).Copy(to, l[1].Lo, n, x.tableOf(in.B))
	}
	return x.tableOf(in.B).Init(to, l[1].Lo, n, x.Elems[x.frame().Elems[in.A]])
}
