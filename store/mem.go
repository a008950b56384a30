package store

import (
	"bodkin/api"
)

// Read are bytes of a memory.
func (m *Mem) Read(at uint64, n int) ([]byte, api.Errno) {
	if m == nil || n < 0 {
		return nil, api.ErrArg
	}
	b, ok := part(m.B, at, uint64(n))
	if !ok {
		return nil, api.TrapMemory
	}
	return longer(b, 0), api.OK
}

// Write puts bytes into a memory.
func (m *Mem) Write(at uint64, b []byte) api.Errno {
	return m.Init(at, 0, uint64(len(b)), b)
}

// Fill puts a byte many times into a memory.
func (m *Mem) Fill(at uint64, c byte, n uint64) api.Errno {
	if m == nil {
		return api.ErrArg
	}
	if !fill(m.B, at, c, n) {
		return api.TrapMemory
	}
	return api.OK
}

// Copy copies bytes within a memory.
func (m *Mem) Copy(to, from, n uint64) api.Errno {
	if m == nil {
		return api.ErrArg
	}
	return m.Init(to, from, n, m.B)
}

// Init puts some of a segment's bytes into a memory.
func (m *Mem) Init(to, from, n uint64, b []byte) api.Errno {
	if m == nil {
		return api.ErrArg
	}
	if !move(m.B, to, b, from, n) {
		return api.TrapMemory
	}
	return api.OK
}

// Grow makes a memory greater by pages; how many there were, or -1.
func (m *Mem) Grow(n uint64, most int) int {
	if m == nil {
		return 0
	}
	pages := len(m.B) / api.PageSize
	if !room(pages, n, min(most, api.MaxPages), m.L) {
		return -1
	}
	// A program may ask for no page often, only to learn how many there are.
	if n > 0 {
		m.B = longer(m.B, n*api.PageSize)
	}
	return pages
}
