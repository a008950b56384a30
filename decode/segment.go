package decode

import (
	"bodkin/api"
)

// opRefFunc is the number of the instruction that an index of functions stands for.
const opRefFunc = 0xd2

// The numbers that segments of references begin with, if functions' indices stand for their elements. If the elements are instructions, the numbers are greater by elemForms.
const (
	elemFirstTable = iota
	elemPassive
	elemActive
	elemDeclared
	elemForms
)

// The numbers that segments of bytes begin with.
const (
	dataFirstMem = iota
	dataPassive
	dataActive
	dataForms
)

// form reads the number that a segment begins with, which must be less than another one. A section's number is a byte; this one may be longer than necessary, as numbers may.
func (r *reader) form(end int) int {
	n := r.index()
	if n >= end {
		r.refuse()
		return 0
	}
	return n
}

// elem reads a segment of references.
func (r *reader) elem() api.Elem {
	number := r.form(2 * elemForms)
	form, isCode := number%elemForms, number >= elemForms
	e := api.Elem{Ref: api.FuncRef}
	switch form {
	case elemFirstTable:
		e.Offset = r.code()
	case elemActive:
		e.Table = r.index()
		e.Offset = r.code()
	case elemPassive:
		e.Mode = api.Passive
	case elemDeclared:
		e.Mode = api.Declared
	}
	if form != elemFirstTable {
		e.Ref = r.elemType(isCode)
	}
	if isCode {
		e.Init = list(r, r.code)
	} else {
		e.Init = list(r, r.funcRef)
	}
	return e
}

// elemType reads the type of a segment's elements, for which 0 stands if they are functions' indices.
func (r *reader) elemType(isCode bool) int {
	if isCode {
		return r.refType()
	}
	r.zero()
	return api.FuncRef
}

// funcRef reads the index of a function, as the instruction that it stands for.
func (r *reader) funcRef() []api.Instr {
	return []api.Instr{{Op: opRefFunc, A: r.index()}}
}

// data reads a segment of bytes.
func (r *reader) data() api.Data {
	var d api.Data
	switch r.form(dataForms) {
	case dataFirstMem:
		d.Offset = r.code()
	case dataPassive:
		d.Mode = api.Passive
	case dataActive:
		d.Mem = r.index()
		d.Offset = r.code()
	}
	d.Bytes = r.Take(r.index())
	return d
}
