package literal

import (
	"strings"

	"bodkin/floats"
)

const (
	// mostDigits is how many digits of a number are kept. One that lies halfway between two floats has at most 768, so digits behind these tell no more than on which side of it a number lies.
	mostDigits = 800
	// With more fives than these, and as many twos, every number but 0 is greater than all floats.
	mostFives = 400
	// With fewer, even a number of all the digits that are kept is rounded to 0.
	leastFives = -1200
	// No text is so long that its digits make up for this exponent.
	farExponent = 1 << 40
)

// numeral is m times 5 to the power of fives times 2 to the power of twos.
type numeral struct {
	m           long
	fives, twos int
}

// numeralOf is the number of a text without a sign, and whether the text says one.
func numeralOf(text string) (numeral, bool) {
	text, base := cutBase(text)
	front, rest := cutDigits(text, base)
	back := ""
	if behind, is := strings.CutPrefix(rest, "."); is {
		back, rest = cutDigits(behind, base)
	}
	power, ok := exponent(rest, base)
	if !ok || !isSequence(front, base) || back != "" && !isSequence(back, base) {
		return numeral{}, false
	}
	m, places := collect(front, back, base)
	if base == 16 {
		return numeral{m, 0, power + 4*places}, true
	}
	return numeral{m, power + places, power + places}, true
}

// exponent is the power that a text tells with its mark in front, or 0 for no text; one that is too far from 0 is brought nearer.
func exponent(text string, base uint64) (int, bool) {
	if text == "" {
		return 0, true
	}
	marks := "eE"
	if base == 16 {
		marks = "pP"
	}
	neg, digits := cutSign(text[1:])
	if !strings.Contains(marks, text[:1]) || !isSequence(digits, 10) {
		return 0, false
	}
	n, _ := number(digits, 10)
	power := int(min(n, farExponent))
	if neg {
		power = -power
	}
	return power, true
}

// collect is the number that the digits in front of a point and behind it make together, and by how many places it has to be moved.
func collect(front, back string, base uint64) (m long, places int) {
	kept, more := 0, false
	for behind, digits := range [...]string{front, back} {
		for _, c := range digits {
			d := value(c)
			switch {
			case c == '_':
			case kept < mostDigits:
				m = m.times(base, d)
				places -= behind
				if len(m) != 0 {
					kept++
				}
			default:
				more = more || d != 0
				places += 1 - behind
			}
		}
	}
	if more {
		// Any digit stands for those that are left out, but for 0.
		m = m.times(base, 1)
		places--
	}
	return m, places
}

// round is the float of so many bits nearest to a number.
func (n numeral) round(bits int) uint64 {
	m, twos, more := n.m, n.twos, false
	fives := max(leastFives, min(n.fives, mostFives))
	if fives < 0 {
		// A word holds 27 fives; two more words leave the quotient 64 bits at least.
		words := -fives/27 + 2
		m, more = m.raised(words).overFives(-fives)
		twos -= 64 * words
	} else {
		m = m.timesFives(fives)
	}
	top, e, lost := m.top()
	// There is no error: the width is known, and the highest bit of top is 1 where there is more.
	out, _ := floats.Round(bits, false, top, twos+e, more || lost)
	return out
}
