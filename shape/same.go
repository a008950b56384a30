package shape

import (
	"slices"

	"bodkin/api"
)

// Same tells whether two modules are the same.
func Same(a, b api.Module) bool {
	return slices.EqualFunc(a.Types, b.Types, sameFuncType) &&
		slices.Equal(a.Imports, b.Imports) &&
		slices.EqualFunc(a.Funcs, b.Funcs, sameFunc) &&
		slices.Equal(a.Tables, b.Tables) &&
		slices.Equal(a.Mems, b.Mems) &&
		slices.EqualFunc(a.Globals, b.Globals, sameGlobal) &&
		slices.Equal(a.Exports, b.Exports) &&
		a.Start == b.Start &&
		slices.EqualFunc(a.Elems, b.Elems, sameElem) &&
		slices.EqualFunc(a.Datas, b.Datas, sameData) &&
		a.Count == b.Count
}

// sameCode tells whether two sequences of instructions are the same.
func sameCode(a, b []api.Instr) bool { return slices.EqualFunc(a, b, sameInstr) }

// sameInstr tells whether two instructions are the same, with those nested in them.
func sameInstr(a, b api.Instr) bool {
	return a.Op == b.Op && a.A == b.A && a.B == b.B && a.N == b.N && a.H == b.H && a.Other == b.Other &&
		slices.Equal(a.L, b.L) && sameCode(a.Body, b.Body) && sameCode(a.Else, b.Else)
}

// sameFuncType tells whether two functions' types are the same.
func sameFuncType(a, b api.FuncType) bool {
	return slices.Equal(a.Params, b.Params) && slices.Equal(a.Results, b.Results)
}

// sameFunc tells whether two functions are the same.
func sameFunc(a, b api.Code) bool {
	return a.Type == b.Type && slices.Equal(a.Locals, b.Locals) && sameCode(a.Body, b.Body)
}

// sameGlobal tells whether two globals are the same.
func sameGlobal(a, b api.Var) bool { return a.Type == b.Type && sameCode(a.Init, b.Init) }

// sameElem tells whether two segments of references are the same.
func sameElem(a, b api.Elem) bool {
	return a.Ref == b.Ref && a.Mode == b.Mode && a.Table == b.Table &&
		sameCode(a.Offset, b.Offset) && slices.EqualFunc(a.Init, b.Init, sameCode)
}

// sameData tells whether two segments of bytes are the same.
func sameData(a, b api.Data) bool {
	return a.Mode == b.Mode && a.Mem == b.Mem && sameCode(a.Offset, b.Offset) && slices.Equal(a.Bytes, b.Bytes)
}
