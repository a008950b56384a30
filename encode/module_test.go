package encode_test

import (
	"reflect"
	"slices"
	"strconv"
	"strings"
	"testing"

	"bodkin/api"
	"bodkin/encode"
	"bodkin/shape"
)

// full is a well-formed module that has something in every list; built anew each time.
func full() api.Module {
	choose := api.Instr{Op: 0x0e, A: 1, L: []int{0, 1}}
	ref := list(api.Instr{Op: 0xd2, A: 1})
	return api.Module{
		Types: []api.FuncType{{Params: []int{api.I32, api.F64}, Results: []int{api.I64}}, {}},
		Imports: []api.Import{
			{Module: "m", Name: "f", Kind: api.Func, Type: 1},
			{Module: "m", Name: "t", Kind: api.Table, Table: api.TableType{Ref: api.ExternRef, L: api.Limits{Min: 1, Max: 2, Has: true}}},
			{Module: "", Name: "", Kind: api.Mem, Mem: api.Limits{Min: 1, Max: 3, Has: true}},
			{Module: "é", Name: "€", Kind: api.Global, Global: api.GlobalType{Type: api.V128, Mut: true}},
		},
		Funcs: []api.Code{
			{Type: 1, Locals: []int{api.F32, api.F32, api.V128}, Body: list(number(7), block(choose, number(7)), fork(list(plain()), list(number(7), plain())))},
			{Type: 0, Body: list(api.Instr{Op: 0xfd0c, N: 1, H: 2}, api.Instr{Op: 0x28, A: 2, B: 4}, api.Instr{Op: 0xfc09, A: 1})},
		},
		Tables:  []api.TableType{{Ref: api.FuncRef, L: api.Limits{Min: 1, Max: 5, Has: true}}, {Ref: api.ExternRef, L: api.Limits{Min: 4}}},
		Mems:    []api.Limits{{Min: 1}, {Min: 2, Max: 1, Has: true}},
		Globals: []api.Var{{Type: api.GlobalType{Type: api.I32, Mut: true}, Init: list(number(7))}, {Type: api.GlobalType{Type: api.FuncRef}, Init: list(api.Instr{Op: 0xd0, A: api.FuncRef})}},
		Exports: []api.Export{{Name: "f", Kind: api.Func, Index: 1}, {Name: "g", Kind: api.Global, Index: 2}},
		Start:   2,
		Elems: []api.Elem{
			{Ref: api.FuncRef, Mode: api.Active, Offset: list(number(7)), Init: [][]api.Instr{ref, ref}},
			{Ref: api.FuncRef, Mode: api.Active, Table: 1, Offset: list(number(7)), Init: [][]api.Instr{ref, {}, {plain(), plain()}}},
			{Ref: api.ExternRef, Mode: api.Passive, Init: [][]api.Instr{{{Op: 0xd0, A: api.ExternRef}}}},
			{Ref: api.FuncRef, Mode: api.Declared},
		},
		Datas: []api.Data{
			{Mode: api.Active, Mem: 1, Offset: list(number(7), plain()), Bytes: []byte{1, 2, 255}},
			{Mode: api.Passive, Bytes: []byte{0}},
		},
		Count: true,
	}
}

// P10.2: all sections by hand, in their order.
func TestFull(t *testing.T) {
	checkModule(t, "the full module", full(), `
01 0a 02 60 02 7f 7c 01 7e 60 00 00
02 20 04 01 6d 01 66 00 01 01 6d 01 74 01 6f 01 01 02 00 00 02 01 01 03 02 c3 a9 03 e2 82 ac 03 7b 01
03 03 02 01 00
04 08 02 70 01 01 05 6f 00 04
05 06 02 00 01 01 02 01
06 0b 02 7f 01 41 07 0b 70 00 d0 70 0b
07 09 02 01 66 00 01 01 67 03 02
08 01 01
09 1f 04
00 41 07 0b 02 01 01
06 01 41 07 0b 70 03 d2 01 0b 0b 01 01 0b
05 6f 01 d0 6f 0b
03 00 00
0c 01 02
0a 37 02
1a 02 02 7d 01 7b 41 07 02 40 0e 02 00 01 01 41 07 0b 04 40 01 05 41 07 01 0b 0b
1a 00 fd 0c 01 00 00 00 00 00 00 00 02 00 00 00 00 00 00 00 28 02 04 fc 09 01 0b
0b 0e 02
02 01 41 07 01 0b 03 01 02 ff
01 01 00`)
}

// part is a module, and its bytes behind the header.
type part struct {
	what string
	m    api.Module
	want string
}

// checkParts checks what Module answers for each of some modules.
func checkParts(t *testing.T, parts []part) {
	t.Helper()
	for _, p := range parts {
		checkModule(t, p.what, p.m, p.want)
	}
}

// P10.2: sections by themselves; the others are left out.
func TestSections(t *testing.T) {
	checkParts(t, []part{
		{"nothing", api.Module{}, ""},
		{"empty lists", api.Module{
			Types: []api.FuncType{}, Imports: []api.Import{}, Funcs: []api.Code{}, Tables: []api.TableType{}, Mems: []api.Limits{},
			Globals: []api.Var{}, Exports: []api.Export{}, Elems: []api.Elem{}, Datas: []api.Data{},
		}, ""},
		{"a type", api.Module{Types: []api.FuncType{{}}}, "01 04 01 60 00 00"},
		{"types", api.Module{Types: []api.FuncType{{Results: []int{api.I32}}, {Params: valueTypes}}}, "01 0f 02 60 00 01 7f 60 07 7f 7e 7d 7c 7b 70 6f 00"},
		{"a function", api.Module{Funcs: []api.Code{{}}}, "03 02 01 00 0a 04 01 02 00 0b"},
		{"a function's type", api.Module{Funcs: []api.Code{{Type: 300}, {Type: 1<<32 - 1}}}, "03 08 02 ac 02 ff ff ff ff 0f 0a 07 02 02 00 0b 02 00 0b"},
		{"a start", api.Module{Start: 1}, "08 01 00"},
		{"the function 128 as a start", api.Module{Start: 129}, "08 02 80 01"},
		{"the last function as a start", api.Module{Start: 1 << 32}, "08 05 ff ff ff ff 0f"},
		{"a count of nothing", api.Module{Count: true}, "0c 01 00"},
		{"data without a count", api.Module{Datas: []api.Data{{}}}, "0b 04 01 00 0b 00"},
		{"data and a count", api.Module{Datas: []api.Data{{Mode: api.Passive}, {Mode: api.Passive}}, Count: true}, "0c 01 02 0b 05 02 01 00 01 00"},
		{"a count, functions and data", api.Module{Funcs: []api.Code{{}}, Datas: []api.Data{{Mode: api.Passive}}, Count: true}, "03 02 01 00 0c 01 01 0a 04 01 02 00 0b 0b 03 01 01 00"},
	})
}

// P10.2: imports and exports of every kind.
func TestImportsAndExports(t *testing.T) {
	for kind, want := range [][]part{
		api.Func:   {{"", api.Module{Imports: []api.Import{{}}}, "00"}, {"", api.Module{Imports: []api.Import{{Type: 200}}}, "c8 01"}},
		api.Table:  {{"", api.Module{Imports: []api.Import{{Table: api.TableType{Ref: api.FuncRef}}}}, "70 00 00"}, {"", api.Module{Imports: []api.Import{{Table: api.TableType{Ref: api.ExternRef, L: api.Limits{Has: true}}}}}, "6f 01 00 00"}},
		api.Mem:    {{"", api.Module{Imports: []api.Import{{Mem: api.Limits{Min: 128}}}}, "00 80 01"}, {"", api.Module{Imports: []api.Import{{Mem: api.Limits{Min: 2, Max: 1, Has: true}}}}, "01 02 01"}},
		api.Global: {{"", api.Module{Imports: []api.Import{{Global: api.GlobalType{Type: api.F32}}}}, "7d 00"}, {"", api.Module{Imports: []api.Import{{Global: api.GlobalType{Type: api.FuncRef, Mut: true}}}}, "70 01"}},
	} {
		for _, p := range want {
			i := p.m.Imports[0]
			i.Kind, i.Module, i.Name = kind, "mod", "ñ"
			size := 9 + len(unspell(t, p.want))
			checkModule(t, "an import", api.Module{Imports: []api.Import{i}}, "02"+hexByte(size)+"01 03 6d 6f 64 02 c3 b1"+hexByte(kind)+p.want)
		}
		checkModule(t, "an export", api.Module{Exports: []api.Export{{Name: "a\x00b", Kind: kind, Index: 16384}}}, "07 09 01 03 61 00 62"+hexByte(kind)+"80 80 01")
		checkModule(t, "an export without a name", api.Module{Exports: []api.Export{{Kind: kind}}}, "07 04 01 00"+hexByte(kind)+"00")
	}
	long := strings.Repeat("x", 200)
	checkModule(t, "a long name", api.Module{Exports: []api.Export{{Name: long}}}, "07 cd 01 01 c8 01"+strings.Repeat("78", 200)+"00 00")
}

// hexByte is a byte's hexadecimal digits.
func hexByte(n int) string { return strconv.FormatInt(int64(n)+256, 16)[1:] }

// P10.2: tables, memories, globals, and the edges of their numbers.
func TestTablesMemoriesGlobals(t *testing.T) {
	checkParts(t, []part{
		{"a table", api.Module{Tables: []api.TableType{{Ref: api.FuncRef}}}, "04 04 01 70 00 00"},
		{"tables", api.Module{Tables: []api.TableType{{Ref: api.ExternRef, L: api.Limits{Min: 128, Max: 1<<32 - 1, Has: true}}, {Ref: api.FuncRef, L: api.Limits{Has: true}}}}, "04 0e 02 6f 01 80 01 ff ff ff ff 0f 70 01 00 00"},
		{"a memory", api.Module{Mems: []api.Limits{{}}}, "05 03 01 00 00"},
		{"memories", api.Module{Mems: []api.Limits{{Min: 1<<32 - 1}, {Min: 1, Max: 65536, Has: true}}}, "05 0c 02 00 ff ff ff ff 0f 01 01 80 80 04"},
		{"a global without an init", api.Module{Globals: []api.Var{{Type: api.GlobalType{Type: api.I64}}}}, "06 04 01 7e 00 0b"},
		{"globals", api.Module{Globals: []api.Var{{Type: api.GlobalType{Type: api.F64, Mut: true}, Init: list(plain(), block())}, {Type: api.GlobalType{Type: api.ExternRef}, Init: list(api.Instr{Op: 0x23, A: 128})}}}, "06 0e 02 7c 01 01 02 40 0b 0b 6f 00 23 80 01 0b"},
	})
}

// P10.2: locals are maximal runs of equal types.
func TestLocals(t *testing.T) {
	for _, c := range []struct {
		locals []int
		want   string
	}{
		{nil, "00"},
		{[]int{api.I32}, "01 01 7f"},
		{[]int{api.I32, api.I32}, "01 02 7f"},
		{[]int{api.I32, api.I64}, "02 01 7f 01 7e"},
		{[]int{api.I32, api.I64, api.I32}, "03 01 7f 01 7e 01 7f"},
		{[]int{api.F32, api.F32, api.V128, api.V128, api.V128, api.F32, api.FuncRef, api.ExternRef, api.ExternRef}, "05 02 7d 03 7b 01 7d 01 70 02 6f"},
		{slices.Repeat([]int{api.F64}, 128), "01 80 01 7c"},
		{slices.Concat(slices.Repeat([]int{api.I32}, api.MaxLocals-1), []int{api.I64}), "02 cf 86 03 7f 01 7e"},
		{slices.Repeat([]int{api.I64}, api.MaxLocals), "01 d0 86 03 7e"},
		{slices.Repeat([]int{api.I64, api.I32}, api.MaxLocals/2), "d0 86 03" + strings.Repeat("01 7e 01 7f", api.MaxLocals/2)},
	} {
		size := unspell(t, c.want)
		function := modelU(len(size)+2) + string(size) + "\x01\x0b"
		section := modelU(1) + function
		want := "\x00asm\x01\x00\x00\x00\x03\x02\x01\x05\x0a" + modelU(len(section)) + section
		b, e := encode.Module(api.Module{Funcs: []api.Code{{Type: 5, Locals: c.locals, Body: list(plain())}}})
		check(t, strconv.Itoa(len(c.locals))+" locals", b, e, []byte(want))
	}
	b, e := encode.Module(api.Module{Funcs: []api.Code{{Locals: slices.Repeat([]int{api.I64}, api.MaxLocals+1)}}})
	checkNot(t, "one local too many", b, e)
}

// P10.2: the lengths of functions and sections.
func TestLengths(t *testing.T) {
	for _, c := range []struct {
		nops int
		want string
	}{
		{1, "0a 05 01 03 00"},
		{125, "0a 81 01 01 7f 00"},
		{126, "0a 83 01 01 80 01 00"},
		{16381, "0a 82 80 01 01 ff 7f 00"},
		{16382, "0a 84 80 01 01 80 80 01 00"},
	} {
		m := api.Module{Funcs: []api.Code{{Body: slices.Repeat(list(plain()), c.nops)}}}
		checkModule(t, strconv.Itoa(c.nops)+" nops", m, "03 02 01 00"+c.want+strings.Repeat("01", c.nops)+"0b")
	}
	types := slices.Repeat([]api.FuncType{{}}, 200)
	checkModule(t, "many types", api.Module{Types: types}, "01 da 04 c8 01"+strings.Repeat("60 00 00", 200))
	bytes := slices.Repeat([]byte{0xee}, 1<<20)
	checkModule(t, "many bytes", api.Module{Datas: []api.Data{{Mode: api.Passive, Bytes: bytes}}}, "0b 85 80 40 01 01 80 80 40"+strings.Repeat("ee", 1<<20))
	funcs := slices.Repeat([]api.Code{{Body: list(plain())}}, 300)
	checkModule(t, "many functions", api.Module{Funcs: funcs}, "03 ae 02 ac 02"+strings.Repeat("00", 300)+"0a b2 09 ac 02"+strings.Repeat("03 00 01 0b", 300))
}

// P10.2: segments of references: all their beginnings.
func TestElems(t *testing.T) {
	offset := list(number(7))
	ref := func(n int) []api.Instr { return list(api.Instr{Op: 0xd2, A: n}) }
	null := func(typ int) []api.Instr { return list(api.Instr{Op: 0xd0, A: typ}) }
	funcs := [][]api.Instr{ref(1), ref(200)}
	mixed := [][]api.Instr{ref(1), null(api.FuncRef)}
	for _, c := range []struct {
		what string
		e    api.Elem
		want string
	}{
		{"active, functions", api.Elem{Ref: api.FuncRef, Offset: offset, Init: funcs}, "00 41 07 0b 02 01 c8 01"},
		{"active, nothing", api.Elem{Ref: api.FuncRef}, "00 0b 00"},
		{"active, mixed", api.Elem{Ref: api.FuncRef, Offset: offset, Init: mixed}, "04 41 07 0b 02 d2 01 0b d0 70 0b"},
		{"active in another table, functions", api.Elem{Ref: api.FuncRef, Table: 128, Offset: offset, Init: funcs}, "02 80 01 41 07 0b 00 02 01 c8 01"},
		{"active in another table, nothing", api.Elem{Ref: api.FuncRef, Table: 1, Offset: offset}, "02 01 41 07 0b 00 00"},
		{"active in another table, mixed", api.Elem{Ref: api.FuncRef, Table: 1, Offset: offset, Init: mixed}, "06 01 41 07 0b 70 02 d2 01 0b d0 70 0b"},
		{"active in the last table", api.Elem{Ref: api.FuncRef, Table: 1<<32 - 1}, "02 ff ff ff ff 0f 0b 00 00"},
		{"active, of the host", api.Elem{Ref: api.ExternRef, Offset: offset, Init: [][]api.Instr{null(api.ExternRef)}}, "06 00 41 07 0b 6f 01 d0 6f 0b"},
		{"active, of the host, nothing", api.Elem{Ref: api.ExternRef, Offset: offset}, "06 00 41 07 0b 6f 00"},
		{"active, of the host, functions", api.Elem{Ref: api.ExternRef, Offset: offset, Init: funcs}, "06 00 41 07 0b 6f 02 d2 01 0b d2 c8 01 0b"},
		{"active in another table, of the host", api.Elem{Ref: api.ExternRef, Table: 3}, "06 03 0b 6f 00"},
		{"passive, functions", api.Elem{Ref: api.FuncRef, Mode: api.Passive, Init: funcs}, "01 00 02 01 c8 01"},
		{"passive, nothing", api.Elem{Ref: api.FuncRef, Mode: api.Passive}, "01 00 00"},
		{"passive, mixed", api.Elem{Ref: api.FuncRef, Mode: api.Passive, Init: mixed}, "05 70 02 d2 01 0b d0 70 0b"},
		{"passive, of the host, nothing", api.Elem{Ref: api.ExternRef, Mode: api.Passive}, "05 6f 00"},
		{"passive, of the host, functions", api.Elem{Ref: api.ExternRef, Mode: api.Passive, Init: funcs[:1]}, "05 6f 01 d2 01 0b"},
		{"declared, functions", api.Elem{Ref: api.FuncRef, Mode: api.Declared, Init: funcs}, "03 00 02 01 c8 01"},
		{"declared, nothing", api.Elem{Ref: api.FuncRef, Mode: api.Declared, Init: [][]api.Instr{}}, "03 00 00"},
		{"declared, mixed", api.Elem{Ref: api.FuncRef, Mode: api.Declared, Init: mixed}, "07 70 02 d2 01 0b d0 70 0b"},
		{"declared, of the host", api.Elem{Ref: api.ExternRef, Mode: api.Declared, Init: [][]api.Instr{null(api.ExternRef)}}, "07 6f 01 d0 6f 0b"},
		{"an element of two instructions", api.Elem{Ref: api.FuncRef, Mode: api.Passive, Init: [][]api.Instr{slices.Concat(ref(1), ref(2))}}, "05 70 01 d2 01 d2 02 0b"},
		{"an element of none", api.Elem{Ref: api.FuncRef, Mode: api.Passive, Init: [][]api.Instr{nil}}, "05 70 01 0b"},
		{"the last element of none", api.Elem{Ref: api.FuncRef, Mode: api.Passive, Init: [][]api.Instr{ref(5), ref(6), {}}}, "05 70 03 d2 05 0b d2 06 0b 0b"},
		{"an element of another instruction", api.Elem{Ref: api.FuncRef, Init: [][]api.Instr{list(api.Instr{Op: 0x23, A: 3})}}, "04 0b 01 23 03 0b"},
		{"a function within a block", api.Elem{Ref: api.FuncRef, Init: [][]api.Instr{list(block(ref(1)...))}}, "04 0b 01 02 40 d2 01 0b 0b"},
	} {
		size := len(unspell(t, c.want))
		checkModule(t, c.what, api.Module{Elems: []api.Elem{c.e}}, "09"+hexByte(size+1)+"01"+c.want)
		checkModule(t, c.what+", behind another", api.Module{Elems: []api.Elem{{Ref: api.FuncRef}, c.e}}, "09"+hexByte(size+4)+"02 00 0b 00"+c.want)
	}
}

// P10.2: segments of bytes.
func TestDatas(t *testing.T) {
	offset := list(number(7))
	for _, c := range []struct {
		what string
		d    api.Data
		want string
	}{
		{"active", api.Data{Offset: offset, Bytes: []byte{0, 255, 128}}, "00 41 07 0b 03 00 ff 80"},
		{"active, nothing", api.Data{}, "00 0b 00"},
		{"active in another memory", api.Data{Mem: 1, Offset: offset, Bytes: []byte{9}}, "02 01 41 07 0b 01 09"},
		{"active in the last memory", api.Data{Mem: 1<<32 - 1}, "02 ff ff ff ff 0f 0b 00"},
		{"passive", api.Data{Mode: api.Passive, Bytes: []byte{1, 2}}, "01 02 01 02"},
		{"passive, nothing", api.Data{Mode: api.Passive, Bytes: []byte{}}, "01 00"},
	} {
		size := len(unspell(t, c.want))
		checkModule(t, c.what, api.Module{Datas: []api.Data{c.d}}, "0b"+hexByte(size+1)+"01"+c.want)
		checkModule(t, c.what+", ahead of another", api.Module{Datas: []api.Data{c.d, {}}}, "0b"+hexByte(size+4)+"02"+c.want+"00 0b 00")
	}
}

// module is a module that is well-formed.
func (s *sequence) module() api.Module {
	var m api.Module
	for range s.next(4) {
		m.Types = append(m.Types, api.FuncType{Params: s.picks(valueTypes, 3), Results: s.picks(valueTypes, 3)})
		m.Imports = append(m.Imports, s.imported())
		m.Funcs = append(m.Funcs, api.Code{Type: s.index(), Locals: s.picks(valueTypes[:s.next(7)+1], 9), Body: s.code(3)})
	}
	for range s.next(3) {
		m.Tables = append(m.Tables, api.TableType{Ref: s.pick(refTypes), L: s.limits()})
		m.Mems = append(m.Mems, s.limits())
		m.Globals = append(m.Globals, api.Var{Type: api.GlobalType{Type: s.pick(valueTypes), Mut: s.next(2) == 0}, Init: s.code(2)})
		m.Exports = append(m.Exports, api.Export{Name: s.text(), Kind: s.next(4), Index: s.index()})
	}
	for range s.next(3) {
		m.Elems = append(m.Elems, s.elem())
		d := api.Data{Mode: s.next(2), Bytes: []byte(s.text())}
		if d.Mode == api.Active {
			d.Mem, d.Offset = s.next(2)*s.index(), s.code(2)
		}
		m.Datas = append(m.Datas, d)
	}
	m.Start = s.next(2) * s.index()
	m.Count = s.next(2) == 0
	if !shape.May(m) {
		m.Count = true
	}
	return m
}

func (s *sequence) limits() api.Limits {
	l := api.Limits{Min: s.index(), Has: s.next(2) == 0}
	if l.Has {
		l.Max = s.index()
	}
	return l
}

func (s *sequence) text() string { return strings.Repeat("añ€", s.next(3)) }

func (s *sequence) imported() api.Import {
	i := api.Import{Module: s.text(), Name: s.text(), Kind: s.next(4)}
	switch i.Kind {
	case api.Func:
		i.Type = s.index()
	case api.Table:
		i.Table = api.TableType{Ref: s.pick(refTypes), L: s.limits()}
	case api.Mem:
		i.Mem = s.limits()
	case api.Global:
		i.Global = api.GlobalType{Type: s.pick(valueTypes), Mut: s.next(2) == 0}
	}
	return i
}

func (s *sequence) elem() api.Elem {
	e := api.Elem{Ref: s.pick(refTypes), Mode: s.next(3)}
	if e.Mode == api.Active {
		e.Table, e.Offset = s.next(2)*s.index(), s.code(2)
	}
	for range s.next(4) {
		e.Init = append(e.Init, list(s.instr(0xd2, 0)))
	}
	if s.next(3) == 0 {
		e.Init = append(e.Init, s.code(2))
	}
	return e
}

// P10.2: modules without a pattern, against the second working-out.
func TestModules(t *testing.T) {
	s := sequence(5)
	for range 5000 {
		m := s.module()
		b, e := encode.Module(m)
		check(t, "a module", b, e, []byte(modelModule(m)))
	}
}

// places calls visit with every field and every element of a module, however deep, and with where it stands.
func places(v reflect.Value, where string, visit func(v reflect.Value, where string)) {
	if where != "" {
		visit(v, where)
	}
	switch v.Kind() {
	case reflect.Struct:
		for i := range v.NumField() {
			places(v.Field(i), where+"."+v.Type().Field(i).Name, visit)
		}
	case reflect.Slice:
		for i := range v.Len() {
			places(v.Index(i), where+"[]", visit)
		}
	}
}

// changes is all the ways in which one value is changed.
func changes(v reflect.Value) []func(v reflect.Value) {
	var out []func(v reflect.Value)
	switch v.Kind() {
	case reflect.Int:
		for _, n := range []int64{0, 1, 2, 3, 4, 0x40, 0x6f, 0x70, 0x7f, 0x80, 0xd2, 0xff, 256, 1<<32 - 1, 1 << 32, -1, -1 << 63, v.Int() + 1, v.Int() + 256, v.Int() + 1<<32, v.Int() ^ -1<<63} {
			out = append(out, func(v reflect.Value) { v.SetInt(n) })
		}
	case reflect.Uint64:
		for _, n := range []uint64{0, 1, 63, 64, 127, 1<<31 - 1, 1 << 31, 1<<32 - 1, 1 << 32, 1<<63 - 1, 1 << 63, 1<<64 - 1} {
			out = append(out, func(v reflect.Value) { v.SetUint(n) })
		}
	case reflect.Uint8:
		out = append(out, func(v reflect.Value) { v.SetUint(v.Uint() ^ 128) })
	case reflect.Bool:
		out = append(out, func(v reflect.Value) { v.SetBool(!v.Bool()) })
	case reflect.String:
		for _, end := range []string{"\x00", "a", "\u0080", "\x80"} {
			out = append(out, func(v reflect.Value) { v.SetString(v.String() + end) })
		}
	case reflect.Slice:
		out = append(out, func(v reflect.Value) { v.Set(reflect.Append(v, reflect.Zero(v.Type().Elem()))) })
		for i := range v.Len() {
			out = append(out, func(v reflect.Value) { v.Set(reflect.AppendSlice(v.Slice(0, i), v.Slice(i+1, v.Len()))) })
			out = append(out, func(v reflect.Value) { v.Set(reflect.Append(v, v.Index(i))) })
		}
	}
	return out
}

// eachChange calls visit with a module that has a change at one place, and with that place.
func eachChange(visit func(m api.Module, where string)) {
	first := full()
	steps := 0
	places(reflect.ValueOf(&first).Elem(), "", func(v reflect.Value, where string) {
		for i := range changes(v) {
			m := full()
			at := 0
			var target reflect.Value
			places(reflect.ValueOf(&m).Elem(), "", func(v reflect.Value, _ string) {
				if at++; at == steps+1 {
					target = v
				}
			})
			changes(target)[i](target)
			visit(m, where)
		}
		steps++
	})
}

// P10.2: what is not well-formed is an error, wherever it stands; all else has its bytes.
func TestEachChange(t *testing.T) {
	good, bad := 0, 0
	eachChange(func(m api.Module, where string) {
		b, e := encode.Module(m)
		if shape.May(m) {
			good++
			check(t, where, b, e, []byte(modelModule(m)))
			return
		}
		bad++
		checkNot(t, where, b, e)
	})
	if good < 500 || bad < 1000 {
		t.Error("only", good, "changes are good and", bad, "bad")
	}
}

// P10.2: modules that are not well-formed, by hand.
func TestWrongModules(t *testing.T) {
	for what, m := range map[string]api.Module{
		"a start below 0":                  {Start: -1},
		"a start beyond the last function": {Start: 1<<32 + 1},
		"a type of nothing":                {Types: []api.FuncType{{Params: []int{0x40}}}},
		"a kind that there isn't":          {Exports: []api.Export{{Kind: 4}}},
		"a name that is no UTF-8":          {Exports: []api.Export{{Name: "\xff"}}},
		"an import with another's type":    {Imports: []api.Import{{Mem: api.Limits{Min: 1}}}},
		"a greatest that isn't used":       {Mems: []api.Limits{{Max: 1}}},
		"a table of numbers":               {Tables: []api.TableType{{Ref: api.I32}}},
		"a segment of no type":             {Elems: []api.Elem{{}}},
		"a passive segment in a table":     {Elems: []api.Elem{{Ref: api.FuncRef, Mode: api.Passive, Table: 1}}},
		"declared bytes":                   {Datas: []api.Data{{Mode: api.Declared}}},
		"data.drop without a count":        {Funcs: []api.Code{{Body: list(api.Instr{Op: 0xfc09})}}, Datas: []api.Data{{}}},
		"memory.init without a count":      {Funcs: []api.Code{{Body: list(block(api.Instr{Op: 0xfc08}))}}, Datas: []api.Data{{}}},
	} {
		b, e := encode.Module(m)
		checkNot(t, what, b, e)
	}
}

// different checks that modules have the same bytes only if they are the same.
type different struct {
	t    *testing.T
	seen map[string]api.Module
}

func (d *different) add(m api.Module) {
	d.t.Helper()
	b, e := encode.Module(m)
	if e != api.OK {
		return
	}
	if other, is := d.seen[string(b)]; is && !shape.Same(other, m) {
		d.t.Error("two modules are", spell(b))
	}
	d.seen[string(b)] = m
}

// P10.3: different modules have different bytes.
func TestDifferent(t *testing.T) {
	d := &different{t, map[string]api.Module{}}
	eachChange(func(m api.Module, _ string) { d.add(m) })
	s := sequence(6)
	for range 5000 {
		d.add(s.module())
	}
	for _, in := range s.manyInstrs() {
		for _, m := range within(list(in)) {
			d.add(m)
		}
	}
	for _, e := range manyElems() {
		d.add(api.Module{Elems: []api.Elem{e}})
		d.add(api.Module{Elems: []api.Elem{e, {Ref: api.FuncRef, Mode: api.Passive}}})
	}
	for n := range 81 {
		locals := []int{valueTypes[n%3], valueTypes[n/3%3], valueTypes[n/9%3], valueTypes[n/27]}
		for size := range 5 {
			d.add(api.Module{Funcs: []api.Code{{Locals: locals[:size]}}})
		}
	}
	if len(d.seen) < 20000 {
		t.Error("only", len(d.seen), "modules")
	}
}

// manyInstrs is instructions of all kinds and blocks of all types, many of which differ in little.
func (s *sequence) manyInstrs() []api.Instr {
	var out []api.Instr
	for _, op := range known {
		for range 5 {
			out = append(out, s.instr(op, 2))
		}
	}
	for _, op := range []int{0x02, 0x03, 0x04} {
		for _, typ := range valueTypes {
			out = append(out, api.Instr{Op: op, A: 1, B: typ})
		}
		for _, n := range edges() {
			out = append(out, api.Instr{Op: op, A: 2, B: n})
		}
		for n := range 256 {
			out = append(out, api.Instr{Op: op, A: 2, B: n})
		}
		out = append(out, api.Instr{Op: op}, api.Instr{Op: op, Body: list(plain())})
	}
	return append(out, fork(nil, nil), fork(list(plain()), nil), fork(nil, list(plain())), fork(list(fork(nil, nil)), nil), fork(nil, list(fork(nil, nil))))
}

// manyElems is all short segments of references.
func manyElems() []api.Elem {
	ref, null := list(api.Instr{Op: 0xd2, A: 1}), list(api.Instr{Op: 0xd0, A: api.FuncRef})
	var out []api.Elem
	for _, typ := range refTypes {
		for _, init := range [][][]api.Instr{nil, {nil}, {ref}, {null}, {ref, ref}, {ref, null}, {null, ref}, {nil, ref}, {slices.Concat(ref, ref)}, {list(block(ref...))}} {
			for _, mode := range []int{api.Passive, api.Declared} {
				out = append(out, api.Elem{Ref: typ, Mode: mode, Init: init})
			}
			for _, table := range []int{0, 1, 2, 127, 128} {
				for _, offset := range [][]api.Instr{nil, ref, null} {
					out = append(out, api.Elem{Ref: typ, Table: table, Offset: offset, Init: init})
				}
			}
		}
	}
	return out
}

// P10.2: what is handed in is not changed, and what comes out is in new memory.
func TestModuleIsNew(t *testing.T) {
	m := full()
	first, _ := encode.Module(m)
	if !reflect.DeepEqual(m, full()) {
		t.Error("changed")
	}
	kept := slices.Clone(first)
	m.Datas[0].Bytes[0], m.Datas[1].Bytes[0] = 77, 78
	second, _ := encode.Module(m)
	for i := range second[:cap(second)] {
		second[:cap(second)][i] = 99
	}
	if !slices.Equal(first, kept) {
		t.Error("an answer shares memory")
	}
	if m.Datas[0].Bytes[0] != 77 {
		t.Error("the module is changed with its bytes")
	}
	third, _ := encode.Module(full())
	if !slices.Equal(third, kept) {
		t.Error("an answer is kept")
	}
	small, _ := encode.Module(api.Module{})
	for i := range small[:cap(small)] {
		small[:cap(small)][i] = 99
	}
	checkModule(t, "the empty module", api.Module{}, "")
}
