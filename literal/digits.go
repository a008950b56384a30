package literal

import (
	"math"
	"strings"
)

// noDigit is greater than the value of every digit of every base.
const noDigit = 16

// value is what a digit counts, be it a hexadecimal one.
func value(c rune) uint64 {
	switch {
	case c >= '0' && c <= '9':
		return uint64(c - '0')
	case c >= 'a' && c <= 'f':
		return uint64(c-'a') + 10
	case c >= 'A' && c <= 'F':
		return uint64(c-'A') + 10
	}
	return noDigit
}

// cutSign tells whether a text begins with a minus, and what stands behind its sign, if it has one.
func cutSign(text string) (neg bool, unsigned string) {
	if rest, is := strings.CutPrefix(text, "-"); is {
		return true, rest
	}
	return false, strings.TrimPrefix(text, "+")
}

// cutBase is what stands behind the mark of a base, if a text has one, and the base.
func cutBase(text string) (digits string, base uint64) {
	if rest, is := strings.CutPrefix(text, "0x"); is {
		return rest, 16
	}
	return text, 10
}

// cutDigits splits a text in front of its first rune that may not stand in a digit sequence.
func cutDigits(text string, base uint64) (digits, rest string) {
	for i, c := range text {
		if c != '_' && value(c) >= base {
			return text[:i], text[i:]
		}
	}
	return text, ""
}

// isSequence tells whether a text is a digit sequence.
func isSequence(text string, base uint64) bool {
	// In front of the first digit no _ may stand, just as behind another one.
	before := '_'
	for _, c := range text {
		if c != '_' && value(c) >= base || c == '_' && before == '_' {
			return false
		}
		before = c
	}
	return before != '_'
}

// whole is the number of a text, and whether the text is a digit sequence whose number 64 bits hold.
func whole(text string, base uint64) (uint64, bool) {
	if !isSequence(text, base) {
		return 0, false
	}
	return number(text, base)
}

// number is the number of a digit sequence, and whether 64 bits hold it; for a greater one, it is the greatest that they hold.
func number(digits string, base uint64) (uint64, bool) {
	n := uint64(0)
	for _, c := range digits {
		if c == '_' {
			continue
		}
		d := value(c)
		if n > (math.MaxUint64-d)/base {
			return math.MaxUint64, false
		}
		n = n*base + d
	}
	return n, true
}
