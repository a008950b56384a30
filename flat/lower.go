package flat

import (
	"slices"

	"bodkin/api"
)

// lowering translates a function, and follows the height of its stack meanwhile. What control never reaches is left out, so that the height is always known.
type lowering struct {
	types  []api.FuncType
	funcs  []api.FuncType
	labels []*label // the outermost one, which is the function's, first
	height int
	out    []Ins
}

// function translates the body of a function with so many results.
func (w *lowering) function(body []api.Instr, results int) {
	l := &label{keep: results}
	w.labels = []*label{l}
	w.sequence(body)
	l.settle(len(w.out))
	w.out = append(w.out, Ins{Op: Return, T: Target{Keep: results}, Free: true})
}

// label is a label, counted from the innermost one.
func (w *lowering) label(depth int) *label { return w.labels[len(w.labels)-1-depth] }

// sequence translates instructions up to the first one that transfers control, and tells whether there is one.
func (w *lowering) sequence(l []api.Instr) bool {
	for _, in := range l {
		w.instr(in)
		if transfers(in.Op) {
			return true
		}
	}
	return false
}

// transfers tells whether what follows an instruction is never reached.
func transfers(op int) bool {
	switch op {
	case opUnreachable, opBr, opBrTable, opReturn:
		return true
	}
	return false
}

// instr translates an instruction.
func (w *lowering) instr(in api.Instr) {
	switch in.Op {
	case opBlock, opLoop, opIf:
		w.block(in)
	case opBr:
		w.branch(Jump, in.A)
	case opBrIf:
		w.height--
		w.branch(If, in.A)
	case opBrTable:
		w.height--
		w.choose(in)
	case opReturn:
		w.out = append(w.out, Ins{Op: Return, T: Target{Keep: w.labels[0].keep}})
	default:
		w.height += w.change(in)
		w.out = append(w.out, Ins{Op: in.Op, A: in.A, B: in.B, N: in.N, H: in.H, L: slices.Clone(in.L)})
	}
}

// jump adds an instruction that goes to a position.
func (w *lowering) jump(in Ins, to *position) {
	place := len(w.out)
	w.out = append(w.out, in)
	to.tell(func(at int) { w.out[place].T.To = at })
}

// branch adds a jump to a label.
func (w *lowering) branch(op, depth int) {
	l := w.label(depth)
	w.jump(Ins{Op: op, T: l.target(w.height)}, &l.position)
}

// choose translates a br_table.
func (w *lowering) choose(in api.Instr) {
	// Behind its end, the module's list may go on with what belongs to others.
	depths := append(in.L[:len(in.L):len(in.L)], in.A)
	table := make([]Target, len(depths))
	for i, depth := range depths {
		l := w.label(depth)
		table[i] = l.target(w.height)
		l.tell(func(at int) { table[i].To = at })
	}
	w.out = append(w.out, Ins{Op: Choose, Table: table})
}

// block translates a block, a loop or an if.
func (w *lowering) block(in api.Instr) {
	if in.Op == opIf {
		w.height--
	}
	f := w.blockType(in)
	l := &label{keep: len(f.Results), height: w.height - len(f.Params)}
	if in.Op == opLoop {
		l.keep = len(f.Params)
		l.settle(len(w.out))
	}
	w.labels = append(w.labels, l)
	if in.Op == opIf {
		w.either(in, &l.position)
	} else {
		w.sequence(in.Body)
	}
	w.labels = w.labels[:len(w.labels)-1]
	w.height = l.height + len(f.Results)
	if in.Op != opLoop {
		l.settle(len(w.out))
	}
}

// blockType is what a block, a loop or an if takes and leaves.
func (w *lowering) blockType(in api.Instr) api.FuncType {
	switch in.A {
	case 1:
		return api.FuncType{Results: []int{in.B}}
	case 2:
		return w.types[in.B]
	}
	return api.FuncType{}
}

// either translates what is nested in an if with that end.
func (w *lowering) either(in api.Instr, end *position) {
	if !in.Other {
		w.jump(Ins{Op: Unless}, end)
		w.sequence(in.Body)
		return
	}
	height := w.height
	other := &position{}
	w.jump(Ins{Op: Unless}, other)
	if !w.sequence(in.Body) {
		w.jump(Ins{Op: Jump, Free: true}, end)
	}
	other.settle(len(w.out))
	w.height = height
	w.sequence(in.Else)
}
