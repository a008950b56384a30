// Package leb is numbers and names as bytes.
package leb

import (
	"bodkin/api"
)

// longest is how many bytes a number of 64 bits needs at most.
const longest = 10

// replacement is the code point that Go's range gives for bytes that are no UTF-8, and that UTF-8 itself may hold.
const replacement = "\uFFFD"

// U is a number's bytes, behind some.
func U(b []byte, n uint64) []byte {
	out := copied(b, longest)
	for n > 0x7f {
		out = append(out, byte(n)|0x80)
		n >>= 7
	}
	return append(out, byte(n))
}

// S is a number's bytes, of either sign, behind some.
func S(b []byte, n int64) []byte {
	out := copied(b, longest)
	for n < -0x40 || n > 0x3f {
		out = append(out, byte(n)|0x80)
		n >>= 7
	}
	return append(out, byte(n)&0x7f)
}

// Name is a name's bytes, behind some.
func Name(b []byte, s string) []byte {
	return append(U(b, uint64(len(s))), s...)
}

// copied is a copy of bytes, with room for some more.
func copied(b []byte, more int) []byte {
	return append(make([]byte, 0, len(b)+more), b...)
}

// Valid tells whether a text is UTF-8.
func Valid(s string) bool {
	for i, c := range s {
		// The code point alone does not tell: a text may hold it rightly, in its three bytes.
		if c == '\uFFFD' && !begins(s[i:], replacement) {
			return false
		}
	}
	return true
}

// begins tells whether a text has another one at its beginning.
func begins(s, start string) bool {
	return len(s) >= len(start) && s[:len(start)] == start
}

// Reader reads bytes.
type Reader struct {
	rest []byte // nothing, once there is an error
	err  api.Errno
}

// Read is a reader of bytes.
func Read(b []byte) *Reader {
	// The caller may change its bytes later: the reader has its own.
	return &Reader{rest: copied(b, 0)}
}

// Byte is the next byte.
func (r *Reader) Byte() byte {
	b := r.next(1)
	if len(b) == 0 {
		return 0
	}
	return b[0]
}

// U is the next number, of so many bits.
func (r *Reader) U(bits int) uint64 {
	low, last, shift := r.groups(bits)
	if r.Err() != api.OK {
		return 0
	}
	if last>>(bits-shift) != 0 {
		r.Fail(api.ErrLong)
		return 0
	}
	return low | uint64(last)<<shift
}

// S is the next number of either sign, of so many bits.
func (r *Reader) S(bits int) int64 {
	low, last, shift := r.groups(bits)
	if r.Err() != api.OK {
		return 0
	}
	top := int8(last<<1) >> 1
	// What lies beyond the type's own sign bit must be the same as it.
	if over := top >> (bits - shift - 1); over != 0 && over != -1 {
		r.Fail(api.ErrLong)
		return 0
	}
	return int64(low) | int64(top)<<shift
}

// groups reads the bytes of a number of so many bits: what stands below its last byte, that byte, and at which bit it begins, which is less than bits.
func (r *Reader) groups(bits int) (low uint64, last byte, shift int) {
	if bits < 1 || bits > 64 {
		r.Fail(api.ErrArg)
		return 0, 0, 0
	}
again:
	last = r.Byte()
	if last < 0x80 {
		return low, last, shift
	}
	low |= uint64(last&0x7f) << shift
	shift += 7
	if shift >= bits {
		r.Fail(api.ErrLong)
		return 0, 0, 0
	}
	goto again
}

// Take are the next bytes.
func (r *Reader) Take(n int) []byte {
	if n < 0 {
		r.Fail(api.ErrArg)
		return nil
	}
	return copied(r.next(uint64(n)), 0)
}

// Name is the next name.
func (r *Reader) Name() string {
	s := string(r.next(r.U(32)))
	if !Valid(s) {
		r.Fail(api.ErrUtf)
		return ""
	}
	return s
}

// next are the next bytes, which stay the reader's own.
func (r *Reader) next(n uint64) []byte {
	if n > uint64(r.Left()) {
		r.Fail(api.ErrShort)
		return nil
	}
	if n == 0 {
		return nil
	}
	b := r.rest[:n]
	r.rest = r.rest[n:]
	return b
}

// Left is how many bytes are left.
func (r *Reader) Left() int {
	if r == nil {
		return 0
	}
	return len(r.rest)
}

// Fail makes an error, if there is none.
func (r *Reader) Fail(e api.Errno) {
	if r == nil || r.err != api.OK || e == api.OK {
		return
	}
	r.err = e
	r.rest = nil
}

// Err is the first error.
func (r *Reader) Err() api.Errno {
	if r == nil {
		return api.ErrArg
	}
	return r.err
}
