package valid_test

import (
	"slices"
	"strconv"
	"testing"

	"bodkin/api"
	"bodkin/ops"
	"bodkin/shape"
	"bodkin/valid"
)

// show tells instructions in the tests' notation.
func show(l []api.Instr) string {
	text := ""
	for _, in := range l {
		text += ops.Name(in.Op) + ":" + strconv.Itoa(in.A) + "," + strconv.Itoa(in.B)
		for _, n := range in.L {
			text += "," + strconv.Itoa(n)
		}
		text += " "
		if ops.Imm(in.Op) == ops.ImmBlock {
			text += show(in.Body)
			if in.Other {
				text += "else " + show(in.Else)
			}
			text += "end "
		}
	}
	return text
}

// tell tells a module.
func tell(t *testing.T, m api.Module) {
	t.Helper()
	for i, c := range m.Funcs {
		t.Log("function", i, "of type", c.Type, "with", c.Locals, show(c.Body))
	}
	m.Funcs = nil
	t.Fatalf("in %+v", m)
}

// checkModel holds Check against the model.
func checkModel(t *testing.T, m api.Module) api.Errno {
	t.Helper()
	want := modelCheck(m)
	if got := valid.Check(m); got != want {
		t.Error("Check is", int(got), "and not", int(want))
		tell(t, m)
	}
	return want
}

// inner are the places at which the sequences of some instructions stand: they themselves, and all that are nested.
func inner(l *[]api.Instr) []*[]api.Instr {
	out := []*[]api.Instr{l}
	for i := range *l {
		in := &(*l)[i]
		if ops.Imm(in.Op) == ops.ImmBlock {
			out = append(out, inner(&in.Body)...)
			if in.Other {
				out = append(out, inner(&in.Else)...)
			}
		}
	}
	return out
}

// bodies are the sequences of all functions.
func bodies(m api.Module) []*[]api.Instr {
	var out []*[]api.Instr
	for i := range m.Funcs {
		out = append(out, inner(&m.Funcs[i].Body)...)
	}
	return out
}

// numbersOf are the numbers in instructions that may be changed.
func numbersOf(l []api.Instr) []*int {
	var out []*int
	for i := range l {
		in := &l[i]
		switch ops.Imm(in.Op) {
		case ops.ImmBlock:
			if in.A > 0 {
				out = append(out, &in.B)
			}
			continue
		case ops.ImmNone, ops.ImmZero, ops.ImmZeros, ops.ImmI32, ops.ImmI64, ops.ImmF32, ops.ImmF64, ops.ImmV128, ops.ImmShuffle, ops.ImmSelect:
		case ops.ImmIndirect, ops.ImmElemTab, ops.ImmTabs:
			out = append(out, &in.A, &in.B)
		default:
			out = append(out, &in.A)
		}
		for j := range in.L {
			out = append(out, &in.L[j])
		}
	}
	return out
}

// outer are the numbers of a module, but those in functions.
func outer(m *api.Module) []*int {
	out := []*int{&m.Start}
	for i := range m.Types {
		for j := range m.Types[i].Params {
			out = append(out, &m.Types[i].Params[j])
		}
		for j := range m.Types[i].Results {
			out = append(out, &m.Types[i].Results[j])
		}
	}
	for i := range m.Imports {
		x := &m.Imports[i]
		out = append(out, [...][]*int{{&x.Type}, {&x.Table.Ref, &x.Table.L.Min, &x.Table.L.Max}, {&x.Mem.Min, &x.Mem.Max}, {&x.Global.Type}}[x.Kind]...)
	}
	for i := range m.Funcs {
		out = append(out, &m.Funcs[i].Type)
	}
	for i := range m.Tables {
		out = append(out, &m.Tables[i].Ref, &m.Tables[i].L.Min, &m.Tables[i].L.Max)
	}
	for i := range m.Mems {
		out = append(out, &m.Mems[i].Min, &m.Mems[i].Max)
	}
	for i := range m.Globals {
		out = append(out, append(numbersOf(m.Globals[i].Init), &m.Globals[i].Type.Type)...)
	}
	for i := range m.Exports {
		out = append(out, &m.Exports[i].Kind, &m.Exports[i].Index)
	}
	for i := range m.Elems {
		e := &m.Elems[i]
		out = append(append(out, &e.Ref, &e.Mode, &e.Table), numbersOf(e.Offset)...)
		for _, init := range e.Init {
			out = append(out, numbersOf(init)...)
		}
	}
	for i := range m.Datas {
		out = append(append(out, &m.Datas[i].Mode, &m.Datas[i].Mem), numbersOf(m.Datas[i].Offset)...)
	}
	return out
}

// change changes a number to another that may stand in its place.
func (g *maker) change(n *int) {
	if *n >= api.ExternRef && *n <= api.I32 {
		*n = one(&g.sequence, valueTypes)
		return
	}
	*n = one(&g.sequence, []int{0, 1, 2, 3, 4, 5, 6, *n + 1, *n + 2, 65536, 65537, 1<<32 - 1, max(0, *n-1)})
}

// spoil changes something in instructions.
func (g *maker) spoil(l *[]api.Instr) {
	place, count := g.next(len(*l)+1), len(*l)
	switch kind := g.next(6); {
	case kind == 0 || count == 0:
		*l = slices.Insert(*l, place, g.any(1))
	case kind == 1:
		place = g.next(count)
		*l = slices.Delete(slices.Clone(*l), place, place+1)
	case kind == 2:
		(*l)[g.next(count)] = g.any(1)
	case kind == 3:
		i, j := g.next(count), g.next(count)
		(*l)[i], (*l)[j] = (*l)[j], (*l)[i]
	case kind == 4:
		in := &(*l)[g.next(count)]
		if in.Op == 0x04 {
			in.Other, in.Else = !in.Other, nil
		}
		if ops.Imm(in.Op) == ops.ImmBlock && in.Op != 0x04 {
			in.Op = 5 - in.Op
		}
	default:
		if numbers := numbersOf(*l); len(numbers) > 0 {
			g.change(one(&g.sequence, numbers))
		}
	}
}

// P12.1, P12.2: modules without a pattern, as they are made, and with changes in their functions.
func TestFunctionsAgainstModel(t *testing.T) {
	g := maker{sequence: 1}
	count := map[api.Errno]int{}
	for range 4000 {
		made := g.module()
		count[checkModel(t, made)]++
		for range 8 {
			m := shape.Copy(made)
			g.m = &m
			for range 1 + g.next(2) {
				g.labels = g.labels[:1]
				g.spoil(one(&g.sequence, bodies(m)))
			}
			count[checkModel(t, m)]++
		}
	}
	if count[api.OK] < 5000 || count[api.ErrInvalid] < 5000 {
		t.Error("there are only", count)
	}
}

// P12.1: modules without a pattern, with changes outside of their functions.
func TestModulesAgainstModel(t *testing.T) {
	g := maker{sequence: 2}
	count := map[api.Errno]int{}
	for range 4000 {
		made := g.module()
		for i := range made.Funcs {
			made.Funcs[i].Body = code("unreachable")
		}
		count[checkModel(t, made)]++
		for range 12 {
			m := shape.Copy(made)
			g.change(one(&g.sequence, outer(&m)))
			count[checkModel(t, m)]++
		}
	}
	if count[api.OK] < 8000 || count[api.ErrInvalid] < 8000 || count[api.ErrArg] < 1000 {
		t.Error("there are only", count)
	}
}

// P12.2: all sequences of three instructions out of some, in an open stack and behind values.
func TestShortFunctionsAgainstModel(t *testing.T) {
	some := code("unreachable drop select select:i32 i32.const i64.const ref.null:func i32.eqz i64.extend_i32_u ref.is_null br:0 br_if:0 return local.get:0 local.tee:0 table.get:1 call:5 block:5 end loop:i32 unreachable end if:i64 unreachable else i64.const end")
	count := map[api.Errno]int{}
	for _, text := range []string{"i32 -> i32", "i32 ->", "i32 -> i64"} {
		f, _ := signature(text)
		m := world(f, nil, nil)
		for _, begin := range []string{"unreachable", "", "i32.const", "unreachable i32.const", "unreachable select"} {
			for _, a := range some {
				for _, b := range some {
					for _, c := range some {
						m.Funcs[0].Body = append(code(begin), a, b, c)
						count[checkModel(t, m)]++
					}
				}
			}
		}
	}
	if count[api.OK] < 3000 {
		t.Error("there are only", count)
	}
}

// P12.4: a nop, wherever it is inserted, changes nothing.
func TestNopChangesNothing(t *testing.T) {
	g := maker{sequence: 3}
	count := map[api.Errno]int{}
	for range 600 {
		m := g.module()
		want := valid.Check(m)
		count[want]++
		for i := range bodies(m) {
			for place := range len(*bodies(m)[i]) + 1 {
				with := shape.Copy(m)
				l := bodies(with)[i]
				*l = slices.Insert(*l, place, api.Instr{Op: 0x01})
				if got := valid.Check(with); got != want {
					t.Error("with a nop, Check is", int(got), "and not", int(want))
					tell(t, with)
				}
			}
		}
	}
	if count[api.OK] < 100 || count[api.ErrInvalid] < 100 {
		t.Error("there are only", count)
	}
}

// P12.4: a valid module stays valid with more types, and with more exports of what there is.
func TestMoreTypesAndExports(t *testing.T) {
	g := maker{sequence: 4}
	good := 0
	for range 3000 {
		m := g.module()
		if valid.Check(m) != api.OK {
			continue
		}
		good++
		m.Types = append(m.Types, api.FuncType{Params: some(&g.sequence, valueTypes, 9), Results: some(&g.sequence, valueTypes, 9)}, m.Types[0])
		for kind, count := range (&model{m: &m}).counts() {
			for i := range count {
				m.Exports = append(m.Exports, api.Export{Name: strconv.Itoa(kind) + " " + strconv.Itoa(i), Kind: kind, Index: i})
			}
		}
		checkIs(t, "a module with more types and exports", m, api.OK)
		l, e := valid.Exports(m)
		if e != api.OK || len(l) != len(m.Exports) {
			t.Error("Exports of a module with more exports are", l, int(e))
		}
	}
	if good < 1000 {
		t.Error("there are only", good)
	}
}
