package decode

import (
	"bodkin/api"
	"bodkin/leb"
)

// reader reads what modules consist of. As soon as something may not be, it reads nothing more, and what it has read is of no use.
type reader struct {
	*leb.Reader
}

// read is a reader of bytes.
func read(b []byte) *reader { return &reader{leb.Read(b)} }

// refuse makes what has been read last an error.
func (r *reader) refuse() { r.Fail(api.ErrForm) }

// told is the first error, as this layer tells it.
func (r *reader) told() api.Errno {
	switch e := r.Err(); e {
	case api.OK, api.ErrNest:
		return e
	}
	return api.ErrForm
}

// ended makes it an error if there is something left.
func (r *reader) ended() {
	if r.Left() > 0 {
		r.refuse()
	}
}

// below reads a byte that must be less than a number.
func (r *reader) below(end int) int {
	n := int(r.Byte())
	if n >= end {
		r.refuse()
		return 0
	}
	return n
}

// zero reads a byte that must be 0.
func (r *reader) zero() { r.below(1) }

// flag reads 1 or 0.
func (r *reader) flag() bool { return r.below(2) == 1 }

// number reads a byte as a number.
func (r *reader) number() int { return int(r.Byte()) }

// index reads an index, or how many there are of something.
func (r *reader) index() int { return int(r.U(32)) }

// little reads a number of so many bytes, the lowest one first.
func (r *reader) little(size int) uint64 {
	var n uint64
	for i := range size {
		n |= uint64(r.Byte()) << (8 * i)
	}
	return n
}

// list reads how many elements a list has, and each of them.
func list[T any](r *reader, one func() T) []T {
	var l []T
	// There may be far fewer elements than the number says: no room is made for them ahead of time.
	for n := r.index(); n > 0 && r.Err() == api.OK; n-- {
		l = append(l, one())
	}
	return l
}

// sized reads how many bytes some content has, and the content, which must be all of them.
func (r *reader) sized(content func(inner *reader)) {
	inner := read(r.Take(r.index()))
	if r.Err() != api.OK {
		return
	}
	content(inner)
	inner.ended()
	r.Fail(inner.Err())
}
