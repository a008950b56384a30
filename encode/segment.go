package encode

import (
	"bodkin/api"
)

// opRefFunc is the number of the instruction that an index of functions stands for.
const opRefFunc = 0xd2

// The numbers that segments of references begin with, if functions' indices stand for their elements.
const (
	elemFirstTable = iota
	elemPassive
	elemActive
	elemDeclared
)

// asCode is how much greater these numbers are if the elements are instructions.
const asCode = 4

// funcKind stands in a segment of functions' indices where one of instructions has its type.
const funcKind = 0

// The numbers that segments of bytes begin with.
const (
	dataFirstMem = iota
	dataPassive
	dataActive
)

// elem writes a segment of references.
func (w *writer) elem(s api.Elem) {
	form, kind := asCode, s.Ref
	if isFuncs(s) {
		form, kind = 0, funcKind
	}
	switch s.Mode {
	case api.Active:
		if s.Table == 0 && s.Ref == api.FuncRef {
			w.bytes(form + elemFirstTable)
			w.code(s.Offset)
			break
		}
		w.bytes(form + elemActive)
		w.u(s.Table)
		w.code(s.Offset)
		w.bytes(kind)
	case api.Passive:
		w.bytes(form+elemPassive, kind)
	case api.Declared:
		w.bytes(form+elemDeclared, kind)
	}
	if form == asCode {
		list(w, s.Init, func(l []api.Instr) { w.code(l) })
	} else {
		list(w, s.Init, func(l []api.Instr) { w.u(l[0].A) })
	}
}

// isFuncs tells whether functions' indices can stand for all elements of a segment.
func isFuncs(s api.Elem) bool {
	for _, l := range s.Init {
		if len(l) != 1 || l[0].Op != opRefFunc {
			return false
		}
	}
	return s.Ref == api.FuncRef
}

// data writes a segment of bytes.
func (w *writer) data(s api.Data) {
	switch {
	case s.Mode == api.Passive:
		w.bytes(dataPassive)
	case s.Mem == 0:
		w.bytes(dataFirstMem)
		w.code(s.Offset)
	default:
		w.bytes(dataActive)
		w.u(s.Mem)
		w.code(s.Offset)
	}
	list(w, s.Bytes, func(b byte) { w.out = append(w.out, b) })
}
