package store_test

import (
	"slices"

	"bodkin/api"
	"bodkin/store"
)

// value is a value of which each field hangs on a small number.
func value(x int) api.Value {
	return api.Value{Type: 0x60 + x, Lo: uint64(x) << 60, Hi: uint64(x) + 1<<40, Null: x%2 == 1}
}

// values are such values.
func values(l ...int) []api.Value { return mapped(l, value) }

func toByte(x int) byte { return byte(x) }

// mapped are the elements of a list, each by itself, as something else.
func mapped[A, B any](l []A, f func(A) B) []B {
	out := make([]B, len(l))
	for i, x := range l {
		out[i] = f(x)
	}
	return out
}

// guards stand in the array of a list ahead of it, and behind it where it has room left.
var guards = []int{101, 102, 103}

// guarded is a list with the guards on both sides.
func guarded(l []int) []int { return slices.Concat(guards, l, guards) }

// inner is a list without the guards; their room behind it stays its own.
func inner[T any](all []T) []T { return all[len(guards) : len(all)-len(guards)] }

// object is a memory or a table, whose elements are told by small numbers.
type object interface {
	all() []int // with the guards
	trap() api.Errno
	fill(at uint64, x int, n uint64) api.Errno
	copy(to, from, n uint64) api.Errno
	init(to, from, n uint64, l []int) (api.Errno, []int) // and what l is then
}

type memory struct {
	*store.Mem
	array []byte
}

func newMemory(l ...int) object {
	array := mapped(guarded(l), toByte)
	return memory{&store.Mem{B: inner(array)}, array}
}

func (m memory) all() []int                                { return mapped(m.array, func(c byte) int { return int(c) }) }
func (m memory) trap() api.Errno                           { return api.TrapMemory }
func (m memory) fill(at uint64, x int, n uint64) api.Errno { return m.Fill(at, byte(x), n) }
func (m memory) copy(to, from, n uint64) api.Errno         { return m.Copy(to, from, n) }
func (m memory) init(to, from, n uint64, l []int) (api.Errno, []int) {
	b := mapped(l, toByte)
	e := m.Init(to, from, n, b)
	return e, mapped(b, func(c byte) int { return int(c) })
}

type table struct {
	*store.Table
	array []api.Value
}

func newTable(l ...int) table {
	array := values(guarded(l)...)
	return table{&store.Table{L: inner(array)}, array}
}

// told is the number of a value, -1 if none has made it.
func told(v api.Value) int {
	if x := v.Type - 0x60; v == value(x) {
		return x
	}
	return -1
}

func (t table) all() []int                                { return mapped(t.array, told) }
func (t table) trap() api.Errno                           { return api.TrapTable }
func (t table) fill(at uint64, x int, n uint64) api.Errno { return t.Fill(at, value(x), n) }
func (t table) copy(to, from, n uint64) api.Errno         { return t.Copy(to, from, n, t.Table) }
func (t table) init(to, from, n uint64, l []int) (api.Errno, []int) {
	v := values(l...)
	e := t.Init(to, from, n, v)
	return e, mapped(v, told)
}

// objects are a memory and a table with such elements.
func objects(l ...int) []object { return []object{newMemory(l...), newTable(l...)} }
