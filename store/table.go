package store

import (
	"bodkin/api"
)

// Get is a table's value.
func (t *Table) Get(i uint64) (api.Value, api.Errno) {
	if t == nil {
		return api.Value{}, api.ErrArg
	}
	l, ok := part(t.L, i, 1)
	if !ok {
		return api.Value{}, api.TrapTable
	}
	return l[0], api.OK
}

// Set puts a value into a table.
func (t *Table) Set(i uint64, v api.Value) api.Errno {
	return t.Fill(i, v, 1)
}

// Grow makes a table greater; how many there were, or -1.
func (t *Table) Grow(n uint64, v api.Value) int {
	if t == nil {
		return 0
	}
	size := len(t.L)
	if !room(size, n, api.MaxTable, t.Type.L) {
		return -1
	}
	t.L = longer(t.L, n)
	fill(t.L, uint64(size), v, n)
	return size
}

// Fill puts a value many times into a table.
func (t *Table) Fill(at uint64, v api.Value, n uint64) api.Errno {
	if t == nil {
		return api.ErrArg
	}
	if !fill(t.L, at, v, n) {
		return api.TrapTable
	}
	return api.OK
}

// Init puts some of a row of values into a table.
func (t *Table) Init(to, from, n uint64, l []api.Value) api.Errno {
	if t == nil {
		return api.ErrArg
	}
	if !move(t.L, to, l, from, n) {
		return api.TrapTable
	}
	return api.OK
}

// Copy copies values of a table, this one or another one.
func (t *Table) Copy(to, from, n uint64, x *Table) api.Errno {
	if t == nil || x == nil {
		return api.ErrArg
	}
	return t.Init(to, from, n, x.L)
}
