package literal

import (
	"bodkin/ints"
)

// half is the lower half of a word.
const half = 1<<32 - 1

// long is a number of any length in words of 64 bits, the lowest first and the highest not 0; a method may change the number that it is called on.
type long []uint64

// times is a number times another one, and some more; both are less than 2^32.
func (l long) times(by, more uint64) long {
	for i, w := range l {
		low := w&half*by + more
		high := w>>32*by + low>>32
		l[i], more = high<<32|low&half, high>>32
	}
	if more != 0 {
		l = append(l, more)
	}
	return l
}

// over is the quotient of a number and another one that is less than 2^32, and the remainder.
func (l long) over(by uint64) (long, uint64) {
	rest := uint64(0)
	for i := len(l) - 1; i >= 0; i-- {
		high := rest<<32 | l[i]>>32
		low := high%by<<32 | l[i]&half
		l[i], rest = high/by<<32|low/by, low%by
	}
	for len(l) > 0 && l[len(l)-1] == 0 {
		l = l[:len(l)-1]
	}
	return l, rest
}

// fivesAtOnce is the greatest power of 5 that is less than 2^32.
const fivesAtOnce = 13

// fives is 5 to the power of k.
func fives(k int) uint64 {
	out := uint64(1)
	for range k {
		out *= 5
	}
	return out
}

// timesFives is a number times 5 to the power of k.
func (l long) timesFives(k int) long {
	for ; k > 0; k -= fivesAtOnce {
		l = l.times(fives(min(k, fivesAtOnce)), 0)
	}
	return l
}

// overFives is the quotient of a number and 5 to the power of k, and whether there is a remainder.
func (l long) overFives(k int) (long, bool) {
	more := false
	for ; k > 0; k -= fivesAtOnce {
		rest := uint64(0)
		l, rest = l.over(fives(min(k, fivesAtOnce)))
		more = more || rest != 0
	}
	return l, more
}

// raised is a number with so many words of 0 below it.
func (l long) raised(words int) long {
	if len(l) == 0 {
		return l
	}
	return append(make(long, words, words+len(l)), l...)
}

// top are the highest 64 bits of a number, the first of them 1 if it is not 0, the power of 2 that the last of them counts, and whether there is more below them.
func (l long) top() (m uint64, e int, more bool) {
	last := len(l) - 1
	if last < 0 {
		return 0, 0, false
	}
	zeros, _ := ints.Un(64, ints.Clz, l[last])
	m, e = l[last]<<zeros, 64*last-int(zeros)
	for i, w := range l[:last] {
		if i == last-1 {
			m |= w >> (64 - zeros)
			w <<= zeros
		}
		more = more || w != 0
	}
	return m, e, more
}
