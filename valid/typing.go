package valid

import "bodkin/api"

// anyType stands on the stack for a type that is not known, which may be taken as any other. No type has this number.
const anyType = 0

// frame is the part of the stack that a sequence of instructions has to itself.
type frame struct {
	base int  // what is below belongs to the sequences around
	open bool // may there be any types below those on the stack?
}

// typing follows the types of values through instructions. As soon as something is wrong, it is of no use.
type typing struct {
	*spaces
	frame
	locals []int
	labels [][]int // the outermost one, which is the function's, first
	stack  []int
	wrong  bool
}

// require makes the instructions wrong if something isn't so.
func (t *typing) require(is bool) {
	if !is {
		t.wrong = true
	}
}

// at is an element of a list, which must have it.
func at[T any](t *typing, l []T, i int) T {
	if i >= len(l) {
		t.wrong = true
		var none T
		return none
	}
	return l[i]
}

// put puts types on the stack.
func (t *typing) put(types ...int) { t.stack = append(t.stack, types...) }

// take takes types from the stack, the last one from its top.
func (t *typing) take(types ...int) {
	t.peek(types...)
	t.stack = t.stack[:max(t.base, len(t.stack)-len(types))]
}

// peek makes sure that types can be taken from the stack.
func (t *typing) peek(types ...int) {
	place := len(t.stack)
	for i := len(types) - 1; i >= 0; i-- {
		place--
		if place < t.base {
			t.require(t.open)
			return
		}
		t.require(t.stack[place] == types[i] || t.stack[place] == anyType)
	}
}

// takeAny takes a type from the stack, whichever it is.
func (t *typing) takeAny() int {
	top := anyType
	if len(t.stack) > t.base {
		top = t.stack[len(t.stack)-1]
	}
	t.take(top)
	return top
}

// leave opens the stack and empties it, since control goes elsewhere.
func (t *typing) leave() {
	t.stack = t.stack[:t.base]
	t.open = true
}

// label is the types of a label, counted from the innermost one.
func (t *typing) label(depth int) []int {
	if depth >= len(t.labels) {
		t.wrong = true
		return nil
	}
	return t.labels[len(t.labels)-1-depth]
}

// sequence follows instructions that begin with exactly some types and have to leave exactly others, within one more label.
func (t *typing) sequence(l []api.Instr, begin, end, label []int) {
	outer := t.frame
	t.frame = frame{base: len(t.stack)}
	t.labels = append(t.labels, label)
	t.put(begin...)
	for i := 0; i < len(l) && !t.wrong; i++ {
		t.instr(l[i])
	}
	t.take(end...)
	t.require(len(t.stack) == t.base)
	t.labels = t.labels[:len(t.labels)-1]
	t.frame = outer
}
