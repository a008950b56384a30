package shape_test

import (
	"reflect"
	"testing"

	"bodkin/api"
	"bodkin/shape"
)

// places calls visit with every field and every element of a module, however deep, and with where it stands.
func places(v reflect.Value, where string, visit func(v reflect.Value, where string)) {
	if where != "" {
		visit(v, where)
	}
	switch v.Kind() {
	case reflect.Struct:
		for i := range v.NumField() {
			places(v.Field(i), where+"."+v.Type().Field(i).Name, visit)
		}
	case reflect.Slice:
		for i := range v.Len() {
			places(v.Index(i), where+"[]", visit)
		}
	}
}

// changes is all the ways in which one value is changed.
func changes(v reflect.Value) []func(v reflect.Value) {
	switch v.Kind() {
	case reflect.Int:
		return []func(v reflect.Value){
			func(v reflect.Value) { v.SetInt(v.Int() + 1) },
			func(v reflect.Value) { v.SetInt(v.Int() - 1) },
			func(v reflect.Value) { v.SetInt(v.Int() + 1<<32) },
			func(v reflect.Value) { v.SetInt(v.Int() ^ -1<<63) },
		}
	case reflect.Uint64:
		return []func(v reflect.Value){
			func(v reflect.Value) { v.SetUint(v.Uint() ^ 1) },
			func(v reflect.Value) { v.SetUint(v.Uint() ^ 1<<63) },
		}
	case reflect.Uint8:
		return []func(v reflect.Value){func(v reflect.Value) { v.SetUint(v.Uint() ^ 128) }}
	case reflect.Bool:
		return []func(v reflect.Value){func(v reflect.Value) { v.SetBool(!v.Bool()) }}
	case reflect.String:
		return []func(v reflect.Value){
			func(v reflect.Value) { v.SetString(v.String() + "\x00") },
			func(v reflect.Value) { v.SetString("\xff" + v.String()) },
		}
	case reflect.Slice:
		out := []func(v reflect.Value){func(v reflect.Value) { v.Set(reflect.Append(v, reflect.Zero(v.Type().Elem()))) }}
		if v.Len() > 0 {
			out = append(out,
				func(v reflect.Value) { v.Set(v.Slice(0, v.Len()-1)) },
				func(v reflect.Value) { v.Set(v.Slice(1, v.Len())) },
				func(v reflect.Value) { v.Set(reflect.Zero(v.Type())) })
		}
		return out
	}
	return nil
}

// eachChange calls visit with a module that differs from the full one at one place, and with that place.
func eachChange(visit func(m api.Module, where string)) {
	first := full()
	steps := 0
	places(reflect.ValueOf(&first).Elem(), "", func(v reflect.Value, where string) {
		for i := range changes(v) {
			m := full()
			at := 0
			places(reflect.ValueOf(&m).Elem(), "", func(v reflect.Value, _ string) {
				if at++; at == steps+1 {
					changes(v)[i](v)
				}
			})
			visit(m, where)
		}
		steps++
	})
}

func checkSame(t *testing.T, what string, a, b api.Module, want bool) {
	t.Helper()
	if got := shape.Same(a, b); got != want {
		t.Error("Same of", what, "is", got)
	}
	if got := shape.Same(b, a); got != want {
		t.Error("Same of", what, "the other way round is", got)
	}
}

// P9.4: Same is false if any one field differs, however deep.
func TestSameOfEachChange(t *testing.T) {
	n := 0
	eachChange(func(m api.Module, where string) {
		n++
		if reflect.DeepEqual(m, full()) {
			t.Error(where, "is not changed")
		}
		checkSame(t, where, m, full(), false)
		checkSame(t, where+" and itself", m, m, true)
	})
	if n < 800 {
		t.Error("only", n, "changes")
	}
}

// P9.4: the order of the elements counts, and what stands behind the last one.
func TestSameByHand(t *testing.T) {
	checkSame(t, "nothing", api.Module{}, api.Module{}, true)
	checkSame(t, "the full module", full(), full(), true)
	checkSame(t, "the full module and nothing", full(), api.Module{}, false)
	types := func(l ...int) api.Module { return api.Module{Types: []api.FuncType{{Params: l}}} }
	checkSame(t, "types", types(1, 2), types(1, 2), true)
	checkSame(t, "types in another order", types(1, 2), types(2, 1), false)
	checkSame(t, "more types", types(1, 2), types(1, 2, 0), false)
	checkSame(t, "no types", types(), types(0), false)
	bodies := func(l ...api.Instr) api.Module { return api.Module{Funcs: []api.Code{{Body: l}}} }
	checkSame(t, "bodies in another order", bodies(plain(), block()), bodies(block(), plain()), false)
	checkSame(t, "a body and an else", bodies(fork(list(plain()), nil)), bodies(fork(nil, list(plain()))), false)
	checkSame(t, "nested in another way", bodies(block(plain()), plain()), bodies(block(plain(), plain())), false)
	checkSame(t, "parameters and results", types(1), api.Module{Types: []api.FuncType{{Results: []int{1}}}}, false)
	// Modules that may not be are compared as well.
	odd := api.Module{Start: -1, Imports: []api.Import{{Kind: 9, Type: -5}}, Funcs: []api.Code{{Body: list(api.Instr{Op: -1, L: []int{-1}})}}}
	checkSame(t, "odd modules", odd, shape.Copy(odd), true)
	checkSame(t, "an odd module and nothing", odd, api.Module{}, false)
	checkSame(t, "deep modules", bodies(tower(1<<16)...), bodies(tower(1<<16)...), true)
	checkSame(t, "deep modules", bodies(tower(1<<16)...), bodies(tower(1<<16-1)...), false)
}

// P9.4: a list that is nil and one that is empty are the same.
func TestSameOfEmpty(t *testing.T) {
	empty := api.Module{
		Types:   []api.FuncType{},
		Imports: []api.Import{},
		Funcs:   []api.Code{},
		Tables:  []api.TableType{},
		Mems:    []api.Limits{},
		Globals: []api.Var{},
		Exports: []api.Export{},
		Elems:   []api.Elem{},
		Datas:   []api.Data{},
	}
	checkSame(t, "empty lists", empty, api.Module{}, true)
	checkSame(t, "copied empty lists", shape.Copy(empty), api.Module{}, true)
	inner := api.Module{
		Types:   []api.FuncType{{Params: []int{}, Results: []int{}}},
		Funcs:   []api.Code{{Locals: []int{}, Body: []api.Instr{}}, {Body: []api.Instr{{L: []int{}, Body: []api.Instr{}, Else: []api.Instr{}}}}},
		Globals: []api.Var{{Init: []api.Instr{}}},
		Elems:   []api.Elem{{Offset: []api.Instr{}, Init: [][]api.Instr{}}, {Init: [][]api.Instr{{}}}},
		Datas:   []api.Data{{Offset: []api.Instr{}, Bytes: []byte{}}},
	}
	bare := api.Module{
		Types:   []api.FuncType{{}},
		Funcs:   []api.Code{{}, {Body: []api.Instr{{}}}},
		Globals: []api.Var{{}},
		Elems:   []api.Elem{{}, {Init: [][]api.Instr{nil}}},
		Datas:   []api.Data{{}},
	}
	checkSame(t, "empty lists in lists", inner, bare, true)
	checkSame(t, "copied empty lists in lists", shape.Copy(inner), bare, true)
}

// P9.4: a copy is equal, of any module.
func TestCopyIsEqual(t *testing.T) {
	if !reflect.DeepEqual(shape.Copy(api.Module{}), api.Module{}) {
		t.Error("nothing")
	}
	if !reflect.DeepEqual(shape.Copy(full()), full()) {
		t.Error("the full module")
	}
	eachChange(func(m api.Module, where string) {
		c := shape.Copy(m)
		if !reflect.DeepEqual(c, m) {
			t.Error("the copy differs:", where)
		}
		checkSame(t, "a copy", c, m, true)
	})
	s := sequence(3)
	for range 500 {
		m := api.Module{Funcs: []api.Code{{Body: s.thicket(5)}}, Elems: []api.Elem{{Offset: s.thicket(3), Init: [][]api.Instr{s.thicket(3)}}}}
		if c := shape.Copy(m); !reflect.DeepEqual(c, m) {
			t.Error("the copy of a thicket differs")
		}
	}
	deep := api.Module{Funcs: []api.Code{{Body: tower(1 << 16)}}}
	checkSame(t, "a deep copy", shape.Copy(deep), deep, true)
}

// scribble changes all numbers, texts and bools of a module, and all that its lists have room for.
func scribble(m *api.Module) {
	places(reflect.ValueOf(m).Elem(), "", func(v reflect.Value, _ string) {
		if v.Kind() != reflect.Slice {
			for _, change := range changes(v) {
				change(v)
			}
			return
		}
		for room := v.Slice(0, v.Cap()); room.Len() > v.Len(); room = room.Slice(0, room.Len()-1) {
			room.Index(room.Len() - 1).SetZero()
		}
	})
}

// P9.4: what is done to a copy is not done to the module, nor the other way round.
func TestCopyIsNew(t *testing.T) {
	m := full()
	c := shape.Copy(m)
	scribble(&c)
	if !reflect.DeepEqual(m, full()) {
		t.Error("the module is changed with the copy")
	}
	c = shape.Copy(m)
	scribble(&m)
	if !reflect.DeepEqual(c, full()) {
		t.Error("the copy is changed with the module")
	}
	if reflect.DeepEqual(m, full()) {
		t.Error("nothing is changed")
	}
}

// P9.4: lists that share memory in a module share none in its copy.
func TestCopyShares(t *testing.T) {
	types := []int{api.I32, api.I64, api.F32}
	code := list(api.Instr{Op: 0x1c, L: types}, api.Instr{Op: 0x0e, L: types})
	m := api.Module{
		Types:   []api.FuncType{{Params: types, Results: types}, {Params: types[:1], Results: types[1:]}},
		Funcs:   []api.Code{{Locals: types, Body: list(fork(code, code))}, {Locals: types, Body: code[:1]}},
		Globals: []api.Var{{Init: code}},
		Elems:   []api.Elem{{Offset: code, Init: [][]api.Instr{code, code}}},
		Datas:   []api.Data{{Offset: code}},
	}
	c := shape.Copy(m)
	starts := map[uintptr]string{}
	places(reflect.ValueOf(&c).Elem(), "", func(v reflect.Value, where string) {
		if v.Kind() != reflect.Slice || v.Cap() == 0 {
			return
		}
		for i := range v.Cap() {
			at := v.Slice(0, v.Cap()).Index(i).UnsafeAddr()
			if other, is := starts[at]; is {
				t.Error(where, "shares memory with", other)
			}
			starts[at] = where
		}
	})
	if !reflect.DeepEqual(c, m) {
		t.Error("the copy differs")
	}
}

// P9.4: what is handed in is not changed.
func TestSameAndCopyChangeNothing(t *testing.T) {
	a, b := full(), full()
	shape.Same(a, b)
	shape.Copy(a)
	if !reflect.DeepEqual(a, full()) || !reflect.DeepEqual(b, full()) {
		t.Error("changed")
	}
}
