package store

import (
	"bodkin/api"
)

// part are n elements of a list from at on, and whether all of them are there.
func part[T any](l []T, at, n uint64) ([]T, bool) {
	size := uint64(len(l))
	// The sum of at and n may overflow, the difference does not.
	if n > size || at > size-n {
		return nil, false
	}
	return l[at : at+n], true
}

// fill puts an element n times into a list; false: a place is not there, and nothing is changed.
func fill[T any](l []T, at uint64, x T, n uint64) bool {
	places, ok := part(l, at, n)
	if !ok {
		return false
	}
	for i := range n {
		places[i] = x
	}
	return true
}

// move puts n elements of a list, as they are now, into this or another one; false: one or its place is not there, and nothing is changed.
func move[T any](to []T, at uint64, from []T, start, n uint64) bool {
	places, ok := part(to, at, n)
	elements, is := part(from, start, n)
	if !ok || !is {
		return false
	}
	copy(places, elements)
	return true
}

// room tells whether there may be n more than so many: at most most, and not beyond the limits.
func room(size int, n uint64, most int, l api.Limits) bool {
	if l.Has {
		most = min(most, l.Max)
	}
	return size <= most && n <= uint64(most-size)
}

// longer is a list with n zero values more, in new memory: what lies behind the end of the old one may be another list's.
func longer[T any](l []T, n uint64) []T {
	out := make([]T, uint64(len(l))+n)
	// With a copy here, make and copy become one that touches all of the new memory, even where it is 0 already.
	move(out, 0, l, 0, uint64(len(l)))
	return out
}
