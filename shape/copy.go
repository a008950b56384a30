package shape

import "bodkin/api"

// Copy is a module in new memory.
func Copy(m api.Module) api.Module {
	m.Types = copied(m.Types, copyFuncType)
	m.Imports = copied(m.Imports, itself)
	m.Funcs = copied(m.Funcs, copyFunc)
	m.Tables = copied(m.Tables, itself)
	m.Mems = copied(m.Mems, itself)
	m.Globals = copied(m.Globals, copyGlobal)
	m.Exports = copied(m.Exports, itself)
	m.Elems = copied(m.Elems, copyElem)
	m.Datas = copied(m.Datas, copyData)
	return m
}

// copied is a list in new memory, of a copy of each element.
func copied[T any](l []T, one func(T) T) []T {
	if l == nil {
		return nil
	}
	out := make([]T, len(l))
	for i, x := range l {
		out[i] = one(x)
	}
	return out
}

// itself is the copy of what has no lists.
func itself[T any](x T) T { return x }

// copyCode is a sequence of instructions in new memory.
func copyCode(l []api.Instr) []api.Instr { return copied(l, copyInstr) }

// copyInstr is an instruction in new memory, with those nested in it.
func copyInstr(in api.Instr) api.Instr {
	in.L = copied(in.L, itself)
	in.Body = copyCode(in.Body)
	in.Else = copyCode(in.Else)
	return in
}

// copyFuncType is a function's type in new memory.
func copyFuncType(f api.FuncType) api.FuncType {
	f.Params = copied(f.Params, itself)
	f.Results = copied(f.Results, itself)
	return f
}

// copyFunc is a function in new memory.
func copyFunc(c api.Code) api.Code {
	c.Locals = copied(c.Locals, itself)
	c.Body = copyCode(c.Body)
	return c
}

// copyGlobal is a global in new memory.
func copyGlobal(v api.Var) api.Var {
	v.Init = copyCode(v.Init)
	return v
}

// copyElem is a segment of references in new memory.
func copyElem(e api.Elem) api.Elem {
	e.Offset = copyCode(e.Offset)
	e.Init = copied(e.Init, copyCode)
	return e
}

// copyData is a segment of bytes in new memory.
func copyData(d api.Data) api.Data {
	d.Offset = copyCode(d.Offset)
	d.Bytes = copied(d.Bytes, itself)
	return d
}
