package inst

import (
	"slices"

	"bodkin/api"
	"bodkin/store"
)

// Fits tells whether something is what an import asks for.
func Fits(s *store.Store, x Extern, t api.Import, m api.Module) bool {
	if s == nil || x.Kind != t.Kind {
		return false
	}
	switch x.Kind {
	case api.Func:
		return fitsFunc(s, x.Addr, t.Type, m)
	case api.Table:
		have, _ := element(s.Tables, x.Addr)
		return have != nil && have.Type.Ref == t.Table.Ref && satisfy(len(have.L), have.Type.L, t.Table.L)
	case api.Mem:
		have, _ := element(s.Mems, x.Addr)
		return have != nil && satisfy(len(have.B)/api.PageSize, have.L, t.Mem)
	case api.Global:
		have, _ := element(s.Globals, x.Addr)
		return have != nil && have.Type == t.Global
	}
	return false
}

// element is what a list has at a place, if there is such a place.
func element[T any](l []T, i int) (x T, ok bool) {
	if i < 0 || i >= len(l) {
		return x, false
	}
	return l[i], true
}

// fitsFunc tells whether there is a function, and it has one of a module's types. Types are the same if their lists are, whatever their indices.
func fitsFunc(s *store.Store, addr, typ int, m api.Module) bool {
	have, ok := element(s.Funcs, addr)
	want, is := element(m.Types, typ)
	return ok && is && slices.Equal(have.Type.Params, want.Params) && slices.Equal(have.Type.Results, want.Results)
}

// satisfy tells whether something of a size, with limits of its own, may be used where others are asked for.
func satisfy(size int, have, want api.Limits) bool {
	return size >= want.Min && (!want.Has || have.Has && have.Max <= want.Max)
}
