package decode_test

import (
	"math"
	"slices"
	"strconv"
	"strings"
	"testing"

	"bodkin/api"
	"bodkin/decode"
)

// P11.2: all sections by hand, in their order.
func TestFull(t *testing.T) {
	isModule(t, "the full module", `
01 0a 02 60 02 7f 7c 01 7e 60 00 00
02 20 04 01 6d 01 66 00 01 01 6d 01 74 01 6f 01 01 02 00 00 02 01 01 03 02 c3 a9 03 e2 82 ac 03 7b 01
03 03 02 01 00
04 08 02 70 01 01 05 6f 00 04
05 06 02 00 01 01 02 01
06 0b 02 7f 01 41 07 0b 70 00 d0 70 0b
07 09 02 01 66 00 01 01 67 03 02
08 01 01
09 1f 04
00 41 07 0b 02 01 01
06 01 41 07 0b 70 03 d2 01 0b 0b 01 01 0b
05 6f 01 d0 6f 0b
03 00 00
0c 01 02
0a 3a 02
1a 02 02 7d 01 7b 41 07 02 40 0e 02 00 01 01 41 07 0b 04 40 01 05 41 07 01 0b 0b
1d 00 fd 0c 01 00 00 00 00 00 00 00 02 00 00 00 00 00 00 00 28 02 04 1c 01 7c fc 09 01 0b
0b 0e 02
02 01 41 07 01 0b 03 01 02 ff
01 01 00`, full())
}

// P11.2: what all modules begin with.
func TestHeader(t *testing.T) {
	for size := range len(header) {
		checkModule(t, "a header that ends too early", header[:size], api.Module{}, api.ErrForm)
		for c := range 256 {
			text := header[:size] + oneByte(c) + header[size+1:]
			want := api.ErrForm
			if text == header {
				want = api.OK
			}
			checkModule(t, "a header with a change", text, api.Module{}, want)
			checkModule(t, "a header with a change ahead of a section", text+"\x05\x01\x00", api.Module{}, want)
		}
	}
	checkModule(t, "a header twice", header+header, api.Module{}, api.ErrForm)
	checkModule(t, "a header behind a byte", "\x00"+header, api.Module{}, api.ErrForm)
	checkModule(t, "nothing", "", api.Module{}, api.ErrForm)
}

// part is digits behind the header, and the module that they are.
type part struct {
	what   string
	digits string
	want   api.Module
}

// checkParts checks what Module answers for each of some modules, and that it is an error if they end too early.
func checkParts(t *testing.T, parts []part) {
	t.Helper()
	for _, p := range parts {
		isModule(t, p.what, p.digits, p.want)
		text := raw(t, p.digits)
		for size := 1; size < len(text); size++ {
			cut := header + text[:size]
			want, e := modelModule(cut)
			checkModule(t, p.what+" that ends too early", cut, want, e)
		}
	}
}

// P11.2: sections by themselves.
func TestSections(t *testing.T) {
	checkParts(t, []part{
		{"nothing", "", api.Module{}},
		{"no types", "01 01 00", api.Module{}},
		{"a type", "01 04 01 60 00 00", api.Module{Types: []api.FuncType{{}}}},
		{"types", "01 0f 02 60 00 01 7f 60 07 7f 7e 7d 7c 7b 70 6f 00", api.Module{Types: []api.FuncType{{Results: []int{api.I32}}, {Params: valueTypes}}}},
		{"no imports", "02 01 00", api.Module{}},
		{"a function", "03 02 01 00 0a 04 01 02 00 0b", api.Module{Funcs: []api.Code{{}}}},
		{"functions' types", "03 08 02 ac 02 ff ff ff ff 0f 0a 07 02 02 00 0b 02 00 0b", api.Module{Funcs: []api.Code{{Type: 300}, {Type: 1<<32 - 1}}}},
		{"no functions", "03 01 00 0a 01 00", api.Module{}},
		{"no functions' types alone", "03 01 00", api.Module{}},
		{"no functions' bodies alone", "0a 01 00", api.Module{}},
		{"a table", "04 04 01 70 00 00", api.Module{Tables: []api.TableType{{Ref: api.FuncRef}}}},
		{"tables", "04 0e 02 6f 01 80 01 ff ff ff ff 0f 70 01 00 00", api.Module{Tables: []api.TableType{{Ref: api.ExternRef, L: api.Limits{Min: 128, Max: 1<<32 - 1, Has: true}}, {Ref: api.FuncRef, L: api.Limits{Has: true}}}}},
		{"no tables", "04 01 00", api.Module{}},
		{"a memory", "05 03 01 00 00", api.Module{Mems: []api.Limits{{}}}},
		{"memories", "05 0c 02 00 ff ff ff ff 0f 01 01 80 80 04", api.Module{Mems: []api.Limits{{Min: 1<<32 - 1}, {Min: 1, Max: 65536, Has: true}}}},
		{"a memory with less than it has", "05 04 01 01 02 01", api.Module{Mems: []api.Limits{{Min: 2, Max: 1, Has: true}}}},
		{"no memories", "05 01 00", api.Module{}},
		{"a global without an init", "06 04 01 7e 00 0b", api.Module{Globals: []api.Var{{Type: api.GlobalType{Type: api.I64}}}}},
		{"globals", "06 0e 02 7c 01 01 02 40 0b 0b 6f 00 23 80 01 0b", api.Module{Globals: []api.Var{{Type: api.GlobalType{Type: api.F64, Mut: true}, Init: list(plain(), block())}, {Type: api.GlobalType{Type: api.ExternRef}, Init: list(api.Instr{Op: 0x23, A: 128})}}}},
		{"no globals", "06 01 00", api.Module{}},
		{"no exports", "07 01 00", api.Module{}},
		{"a start", "08 01 00", api.Module{Start: 1}},
		{"the function 128 as a start", "08 02 80 01", api.Module{Start: 129}},
		{"the last function as a start", "08 05 ff ff ff ff 0f", api.Module{Start: 1 << 32}},
		{"no segments of references", "09 01 00", api.Module{}},
		{"a count of nothing", "0c 01 00", api.Module{Count: true}},
		{"a count of nothing, and no data", "0c 01 00 0b 01 00", api.Module{Count: true}},
		{"no data", "0b 01 00", api.Module{}},
		{"data without a count", "0b 04 01 00 0b 00", api.Module{Datas: []api.Data{{}}}},
		{"data and a count", "0c 01 02 0b 05 02 01 00 01 00", api.Module{Datas: []api.Data{{Mode: api.Passive}, {Mode: api.Passive}}, Count: true}},
		{"a count, functions and data", "03 02 01 00 0c 01 01 0a 04 01 02 00 0b 0b 03 01 01 00", api.Module{Funcs: []api.Code{{}}, Datas: []api.Data{{Mode: api.Passive}}, Count: true}},
	})
}

// P11.2: lengths, numbers of elements and indices that are longer than necessary.
func TestLongLengths(t *testing.T) {
	for _, c := range []struct {
		what    string
		number  int
		content string
		want    api.Module
	}{
		{"nothing", 1, "80 80 80 80 00", api.Module{}},
		{"types", 1, "81 80 80 80 00 60 81 80 80 80 00 7f 80 00", api.Module{Types: []api.FuncType{{Params: []int{api.I32}}}}},
		{"imports", 2, "81 00 81 00 61 82 80 80 80 00 c3 a9 00 80 00", api.Module{Imports: []api.Import{{Module: "a", Name: "é"}}}},
		{"an import's type", 2, "01 00 00 00 83 80 80 80 00", api.Module{Imports: []api.Import{{Type: 3}}}},
		{"tables", 4, "81 80 00 70 01 81 80 80 80 00 82 00", api.Module{Tables: []api.TableType{{Ref: api.FuncRef, L: api.Limits{Min: 1, Max: 2, Has: true}}}}},
		{"memories", 5, "82 00 01 80 80 00 85 80 80 80 00 00 82 80 00", api.Module{Mems: []api.Limits{{Max: 5, Has: true}, {Min: 2}}}},
		{"globals", 6, "81 00 7f 00 41 80 00 0b", api.Module{Globals: []api.Var{{Type: api.GlobalType{Type: api.I32}, Init: list(number(0))}}}},
		{"exports", 7, "81 00 80 00 02 81 00", api.Module{Exports: []api.Export{{Kind: api.Mem, Index: 1}}}},
		{"a start", 8, "83 80 80 80 00", api.Module{Start: 4}},
		{"segments of references", 9, "81 00 02 83 00 0b 00 82 80 00 81 00 02", api.Module{Elems: []api.Elem{{Ref: api.FuncRef, Table: 3, Init: [][]api.Instr{ref(1), ref(2)}}}}},
		{"segments of instructions", 9, "81 00 07 6f 82 80 00 0b 0b", api.Module{Elems: []api.Elem{{Ref: api.ExternRef, Mode: api.Declared, Init: [][]api.Instr{nil, nil}}}}},
		{"a count", 12, "80 80 80 80 00", api.Module{Count: true}},
		{"data", 11, "81 00 02 83 00 0b 82 80 80 80 00 05 06", api.Module{Datas: []api.Data{{Mem: 3, Bytes: []byte{5, 6}}}}},
	} {
		content := raw(t, c.content)
		for size := needsU(len(content)); size <= 5; size++ {
			checkModule(t, c.what, header+oneByte(c.number)+padded(int64(len(content)), size)+content, c.want, api.OK)
		}
		checkModule(t, c.what+" with a length that is too long", header+oneByte(c.number)+padded(int64(len(content)), 6)+content, api.Module{}, api.ErrForm)
		checkModule(t, c.what+" with a length that is too great", header+oneByte(c.number)+writtenU(len(content)+1<<32)+content, api.Module{}, api.ErrForm)
	}
	isModule(t, "functions", "03 03 81 00 05 0a 12 81 00 8b 80 80 80 00 81 80 80 80 00 82 80 00 7f 01 0b", api.Module{Funcs: []api.Code{{Type: 5, Locals: []int{api.I32, api.I32}, Body: list(plain())}}})
	for _, digits := range []string{"01 06 80 80 80 80 80 00", "03 07 01 80 80 80 80 80 00 0a 04 01 02 00 0b", "08 06 80 80 80 80 80 00", "08 05 80 80 80 80 10", "0c 06 80 80 80 80 80 00", "03 02 01 00 0a 09 01 82 80 80 80 80 00 00 0b"} {
		noModule(t, "a number that is too long", digits)
	}
}

// P11.2: the order of the sections.
func TestOrderOfSections(t *testing.T) {
	order := []int{1, 2, 3, 4, 5, 6, 7, 9, 12, 10, 11}
	empty := func(number int) string { return oneByte(number) + "\x01\x00" }
	for i, a := range order {
		for j, b := range order {
			want := api.ErrForm
			if i < j {
				want = api.OK
			}
			m := api.Module{Count: want == api.OK && (a == 12 || b == 12)}
			checkModule(t, "two sections", header+empty(a)+empty(b), m, want)
			checkModule(t, "two sections with another one between", header+empty(a)+"\x00\x01\x00"+empty(b), m, want)
			m.Start = 0
			for k, c := range order {
				if want == api.OK && j < k {
					checkModule(t, "three sections", header+empty(a)+empty(b)+empty(c), api.Module{Count: a == 12 || b == 12 || c == 12}, api.OK)
				} else {
					checkModule(t, "three sections", header+empty(a)+empty(b)+empty(c), api.Module{}, api.ErrForm)
				}
			}
		}
	}
	start := "\x08\x01\x05"
	for _, number := range order {
		before, behind := api.ErrForm, api.OK
		if number < 8 {
			before, behind = api.OK, api.ErrForm
		}
		for i, text := range []string{empty(number) + start, start + empty(number)} {
			want := []api.Errno{before, behind}[i]
			m := api.Module{}
			if want == api.OK {
				m.Start, m.Count = 6, number == 12
			}
			checkModule(t, "a start and another section", header+text, m, want)
		}
	}
	checkModule(t, "two starts", header+start+start, api.Module{}, api.ErrForm)
	all := ""
	for _, number := range []int{1, 2, 3, 4, 5, 6, 7, 8, 9, 12, 10, 11} {
		all += empty(number)
	}
	checkModule(t, "all sections", header+all, api.Module{Start: 1, Count: true}, api.OK)
	for number := 13; number < 256; number++ {
		checkModule(t, "a section of no number", header+empty(number), api.Module{}, api.ErrForm)
		checkModule(t, "a section of no number behind all", header+all+empty(number), api.Module{}, api.ErrForm)
	}
	checkModule(t, "a section's number alone", header+"\x01", api.Module{}, api.ErrForm)
	checkModule(t, "a section's number in two bytes", header+"\x81\x00\x01\x00", api.Module{}, api.ErrForm)
}

// P11.2: a section's length is that of what is in it.
func TestLengthsOfSections(t *testing.T) {
	contents := map[int]string{
		1: "\x01\x60\x01\x7f\x00", 2: "\x01\x01a\x01b\x00\x05", 3: "\x00", 4: "\x01\x70\x00\x03", 5: "\x01\x00\x03", 6: "\x01\x7f\x00\x01\x0b",
		7: "\x01\x01a\x00\x05", 8: "\x05", 9: "\x01\x01\x00\x01\x05", 12: "\x00", 10: "\x00", 11: "\x01\x01\x03abc",
	}
	for number, content := range contents {
		start := header + oneByte(number)
		want, e := modelModule(start + oneByte(len(content)) + content)
		checkModule(t, "a section", start+oneByte(len(content))+content, want, e)
		if e != api.OK {
			t.Error("the section", number, "is an error")
		}
		for length := range 128 {
			if length == len(content) {
				continue
			}
			checkModule(t, "a section of another length", start+oneByte(length)+content, api.Module{}, api.ErrForm)
			if length > len(content) {
				checkModule(t, "a section with zeros behind it", start+oneByte(length)+content+strings.Repeat("\x00", length-len(content)), api.Module{}, api.ErrForm)
			}
		}
		for _, length := range []int{128, 1 << 16, 1<<31 - 1, 1 << 31, 1<<32 - 1} {
			checkModule(t, "a section of a great length", start+writtenU(length)+content, api.Module{}, api.ErrForm)
		}
	}
	for number := range 13 {
		if number != 0 {
			checkModule(t, "a section of nothing", header+oneByte(number)+"\x00", api.Module{}, api.ErrForm)
		}
	}
}

// P11.2: sections of number 0.
func TestCustomSections(t *testing.T) {
	good := []string{"00 01 00", "00 02 01 61", "00 03 01 61 ff", "00 04 00 0a 0b 0c", "00 04 03 e2 82 ac", "00 05 03 e2 82 ac 80", "00 83 80 00 02 61 62", "00 82 00 80 00", "00 06 81 80 80 80 00 61"}
	for _, c := range good {
		isModule(t, "a section to ignore", c, api.Module{})
		isModule(t, "two of them", c+c, api.Module{})
		isModule(t, "one ahead", c+"05 03 01 00 01", api.Module{Mems: []api.Limits{{Min: 1}}})
		isModule(t, "one behind", "05 03 01 00 01"+c, api.Module{Mems: []api.Limits{{Min: 1}}})
		isModule(t, "many", c+"04 01 00"+c+c+"05 03 01 00 01"+c+"0b 01 00"+c, api.Module{Mems: []api.Limits{{Min: 1}}})
		noModule(t, "one between two of the same number", "05 03 01 00 01"+c+"05 03 01 00 01")
		noModule(t, "one between two in the wrong order", "05 03 01 00 01"+c+"04 01 00")
	}
	for _, c := range []string{"00 00", "00 01 01", "00 02 02 61", "00 02 01 80", "00 02 01 ff", "00 04 03 ed a0 80", "00 03 02 c0 80", "00 03 01 c3 a9", "00 01 80", "00 06 80 80 80 80 80 00", "00 05 ff ff ff ff 0f", "00 02 00", "00", "00 80", "00 01"} {
		noModule(t, "a section to ignore without a name", c)
		noModule(t, "one ahead of a section", c+"05 03 01 00 01")
		noModule(t, "one behind a section", "05 03 01 00 01"+c)
	}
	long := strings.Repeat("x", 70000)
	checkModule(t, "a long section to ignore", header+"\x00"+sized(sized(long)+long), api.Module{}, api.OK)
}

// P11.2: imports and exports of every kind.
func TestImportsAndExports(t *testing.T) {
	for _, c := range []struct {
		digits string
		want   api.Import
	}{
		{"00 00", api.Import{}},
		{"00 c8 01", api.Import{Type: 200}},
		{"01 70 00 00", api.Import{Kind: api.Table, Table: api.TableType{Ref: api.FuncRef}}},
		{"01 6f 01 00 00", api.Import{Kind: api.Table, Table: api.TableType{Ref: api.ExternRef, L: api.Limits{Has: true}}}},
		{"02 00 80 01", api.Import{Kind: api.Mem, Mem: api.Limits{Min: 128}}},
		{"02 01 02 01", api.Import{Kind: api.Mem, Mem: api.Limits{Min: 2, Max: 1, Has: true}}},
		{"03 7d 00", api.Import{Kind: api.Global, Global: api.GlobalType{Type: api.F32}}},
		{"03 70 01", api.Import{Kind: api.Global, Global: api.GlobalType{Type: api.FuncRef, Mut: true}}},
	} {
		c.want.Module, c.want.Name = "mod", "ñ"
		text := "\x03mod\x02ñ" + raw(t, c.digits)
		checkModule(t, "an import", header+sectionOf(2, "\x01"+text), api.Module{Imports: []api.Import{c.want}}, api.OK)
		checkModule(t, "two imports", header+sectionOf(2, "\x02"+text+"\x00\x00\x00\x07"), api.Module{Imports: []api.Import{c.want, {Type: 7}}}, api.OK)
		for size := range len(text) {
			checkModule(t, "an import that ends too early", header+sectionOf(2, "\x01"+text[:size]), api.Module{}, api.ErrForm)
		}
	}
	for _, digits := range []string{"04 00", "05 00", "80 00 00", "ff 00", "01 7f 00 00", "01 40 00 00", "01 70 02 00", "01 70 80 00 00", "01 70 ff 00", "02 02 00", "02 03 00 00", "02 80 00 00", "02 81 00 00 00", "03 40 00", "03 7f 02", "03 7f 80 00", "03 7f ff", "03 60 00", "03 ff 00 00"} {
		wrong := header + sectionOf(2, "\x01\x00\x00"+raw(t, digits))
		checkModule(t, "a wrong import", wrong, api.Module{}, api.ErrForm)
		checkModule(t, "a wrong import ahead of what is too deep", wrong+deepData(), api.Module{}, api.ErrForm)
	}
	for kind := range 256 {
		m, e := api.Module{Exports: []api.Export{{Name: "a\x00b", Kind: kind, Index: 16384}}}, api.OK
		if kind > 3 {
			m, e = api.Module{}, api.ErrForm
		}
		text := header + sectionOf(7, "\x01\x03a\x00b"+oneByte(kind)+"\x80\x80\x01")
		checkModule(t, "an export", text, m, e)
		if e == api.OK {
			m, e = api.Module{}, api.ErrNest
		}
		checkModule(t, "an export ahead of what is too deep", text+deepData(), m, e)
	}
	isModule(t, "exports", "07 0b 02 00 03 ff ff ff ff 0f 00 03 00", api.Module{Exports: []api.Export{{Kind: api.Global, Index: math.MaxUint32}, {Kind: api.Global}}})
	long := strings.Repeat("é", 100)
	checkModule(t, "a long name", header+sectionOf(7, "\x01"+sized(long)+"\x00\x00"), api.Module{Exports: []api.Export{{Name: long}}}, api.OK)
}

// P11.2: names are UTF-8, and end in their section.
func TestNames(t *testing.T) {
	for _, name := range []string{"\x80", "\xff", "\xc0\x80", "\xc1\xbf", "\xe0\x80\x80", "\xed\xa0\x80", "\xed\xbf\xbf", "\xf0\x80\x80\x80", "\xf4\x90\x80\x80", "a\xc3", "\xe2\x82", "€\xe2\x82b"} {
		checkModule(t, "an export", header+sectionOf(7, "\x01"+sized(name)+"\x00\x00"), api.Module{}, api.ErrForm)
		checkModule(t, "an import", header+sectionOf(2, "\x01"+sized(name)+"\x00\x00\x00"), api.Module{}, api.ErrForm)
		checkModule(t, "an import's second name", header+sectionOf(2, "\x01\x00"+sized(name)+"\x00\x00"), api.Module{}, api.ErrForm)
		checkModule(t, "a name ahead of what is too deep", header+sectionOf(7, "\x01"+sized(name)+"\x00\x00")+deepData(), api.Module{}, api.ErrForm)
		checkModule(t, "a section to ignore", header+sectionOf(0, sized(name)), api.Module{}, api.ErrForm)
	}
	for _, name := range []string{"", "\x00", "\x7f", "\u0080", "\ud7ff", "\ue000", "\uffff", "\ufffd", "\U00010000", "\U0010ffff"} {
		checkModule(t, "an export", header+sectionOf(7, "\x01"+sized(name)+"\x00\x00"), api.Module{Exports: []api.Export{{Name: name}}}, api.OK)
		checkModule(t, "an import", header+sectionOf(2, "\x01"+sized(name)+sized(name)+"\x00\x00"), api.Module{Imports: []api.Import{{Module: name, Name: name}}}, api.OK)
		checkModule(t, "a section to ignore", header+sectionOf(0, sized(name)), api.Module{}, api.OK)
	}
	for _, size := range []int{4, 5, 127, 128, 1 << 16, 1<<32 - 1} {
		checkModule(t, "a name that is longer than its section", header+sectionOf(7, "\x01"+writtenU(size)+"a\x00\x00")+"\x00\x7f"+strings.Repeat("\x00", 127), api.Module{}, api.ErrForm)
	}
}

// P11.2: types, limits and flags are single bytes that must be allowed.
func TestWrongBytes(t *testing.T) {
	for c := range 256 {
		one := oneByte(c)
		isValue, isRef := slices.Contains(valueTypes, c), slices.Contains(refTypes, c)
		for _, x := range []struct {
			what string
			text string
			good bool
		}{
			{"a type's mark", sectionOf(1, "\x01"+one+"\x00\x00"), c == 0x60},
			{"a type's mark behind another type", sectionOf(1, "\x02\x60\x00\x00"+one+"\x00\x00"), c == 0x60},
			{"a parameter", sectionOf(1, "\x01\x60\x02\x7f"+one+"\x00"), isValue},
			{"a result", sectionOf(1, "\x01\x60\x00\x01"+one), isValue},
			{"a table's type", sectionOf(4, "\x01"+one+"\x00\x00"), isRef},
			{"a table's limits", sectionOf(4, "\x01\x70"+one+"\x00\x00"), c == 1},
			{"a table's limits without a greatest", sectionOf(4, "\x01\x70"+one+"\x00"), c == 0},
			{"a memory's limits", sectionOf(5, "\x01"+one+"\x00\x00"), c == 1},
			{"a memory's limits without a greatest", sectionOf(5, "\x01"+one+"\x00"), c == 0},
			{"a global's type", sectionOf(6, "\x01"+one+"\x00\x0b"), isValue},
			{"a global that changes", sectionOf(6, "\x01\x7f"+one+"\x0b"), c < 2},
			{"a local", sectionOf(3, "\x01\x00") + sectionOf(10, "\x01\x04\x01\x01"+one+"\x0b"), isValue},
			{"no local", sectionOf(3, "\x01\x00") + sectionOf(10, "\x01\x04\x01\x00"+one+"\x0b"), isValue},
			{"a segment's type", sectionOf(9, "\x01\x05"+one+"\x00"), isRef},
			{"a declared segment's type", sectionOf(9, "\x01\x07"+one+"\x00"), isRef},
			{"an active segment's type", sectionOf(9, "\x01\x06\x00\x0b"+one+"\x00"), isRef},
			{"a segment's kind", sectionOf(9, "\x01\x01"+one+"\x00"), c == 0},
			{"a declared segment's kind", sectionOf(9, "\x01\x03"+one+"\x00"), c == 0},
			{"an active segment's kind", sectionOf(9, "\x01\x02\x00\x0b"+one+"\x00"), c == 0},
			{"a segment of bytes", sectionOf(11, "\x01"+one+"\x00"), c == 1},
			{"an active segment of bytes", sectionOf(11, "\x01"+one+"\x0b\x00"), c == 0},
			{"an active segment of bytes in a memory", sectionOf(11, "\x01"+one+"\x07\x0b\x00"), c == 2},
		} {
			m, e := modelModule(header + x.text)
			if x.good != (e == api.OK) {
				t.Error(x.what, c, "is", int(e))
			}
			checkModule(t, x.what, header+x.text, m, e)
			checkModelModule(t, x.what+" ahead of what is too deep", header+x.text+deepData())
		}
	}
}

// P11.2: locals are divided into runs in any way.
func TestLocals(t *testing.T) {
	for _, c := range []struct {
		digits string
		want   []int
	}{
		{"00", nil},
		{"80 80 80 80 00", nil},
		{"01 01 7f", []int{api.I32}},
		{"01 02 7f", []int{api.I32, api.I32}},
		{"02 01 7f 01 7f", []int{api.I32, api.I32}},
		{"01 00 7f", nil},
		{"03 00 7f 00 7e 00 7f", nil},
		{"04 00 7f 01 7e 00 6f 02 7e", []int{api.I64, api.I64, api.I64}},
		{"03 01 7f 01 7e 81 00 7f", []int{api.I32, api.I64, api.I32}},
		{"05 02 7d 03 7b 01 7d 01 70 02 6f", []int{api.F32, api.F32, api.V128, api.V128, api.V128, api.F32, api.FuncRef, api.ExternRef, api.ExternRef}},
		{"01 80 01 7c", slices.Repeat([]int{api.F64}, 128)},
		{"01 d0 86 03 7e", slices.Repeat([]int{api.I64}, api.MaxLocals)},
		{"02 cf 86 03 7f 01 7e", slices.Concat(slices.Repeat([]int{api.I32}, api.MaxLocals-1), []int{api.I64})},
		{"02 d0 86 03 7f 00 7e", slices.Repeat([]int{api.I32}, api.MaxLocals)},
		{"d0 86 03" + strings.Repeat("01 7e 01 7f", api.MaxLocals/2), slices.Repeat([]int{api.I64, api.I32}, api.MaxLocals/2)},
		{"e1 a7 12" + strings.Repeat("00 70", 300001), nil},
	} {
		function := sized(raw(t, c.digits) + "\x01\x0b")
		m := api.Module{Funcs: []api.Code{{Type: 5, Locals: c.want, Body: list(plain())}}}
		checkModule(t, strconv.Itoa(len(c.want))+" locals", header+sectionOf(3, "\x01\x05")+sectionOf(10, "\x01"+function), m, api.OK)
		m = api.Module{Funcs: []api.Code{{Type: 5, Locals: c.want, Body: list(plain())}, {Type: 6, Locals: c.want, Body: list(plain())}}}
		checkModule(t, strconv.Itoa(len(c.want))+" locals, twice", header+sectionOf(3, "\x02\x05\x06")+sectionOf(10, "\x02"+function+function), m, api.OK)
	}
	for _, digits := range []string{
		"01 d1 86 03 7e", "02 d0 86 03 7f 01 7f", "02 01 7f d0 86 03 7f", "03 d0 86 03 7f 00 7f 01 7e", "01 ff ff ff ff 0f 7f", "02 ff ff ff ff 0f 7f 01 7f", "02 01 7f ff ff ff ff 0f 7f", "02 80 80 80 80 08 7f 80 80 80 80 08 7f",
		"d1 86 03" + strings.Repeat("01 7e", api.MaxLocals+1), "ff ff ff ff 0f 01 7f", "01 80 80 80 80 10 7f", "01 80 80 80 80 80 00 7f", "02 01 7f", "01 01", "01", "01 01 40", "01 00 00", "01 7f 01",
	} {
		for _, body := range []string{"\x01\x0b", tooDeep()} {
			function := sized(raw(t, digits) + body)
			checkModule(t, "wrong locals", header+sectionOf(3, "\x01\x05")+sectionOf(10, "\x01"+function), api.Module{}, api.ErrForm)
		}
	}
}

// P11.2: a function's length is that of what is in it, and it ends in its section.
func TestLengthsOfFunctions(t *testing.T) {
	body := "\x01\x01\x7f\x01\x41\x00\x1a\x0b"
	want := api.Module{Funcs: []api.Code{{Locals: []int{api.I32}, Body: list(plain(), number(0), api.Instr{Op: 0x1a})}, {}}}
	for length := range 128 {
		text := header + sectionOf(3, "\x02\x00\x00") + sectionOf(10, "\x02"+oneByte(length)+body+"\x02\x00\x0b")
		if length == len(body) {
			checkModule(t, "a function", text, want, api.OK)
		} else {
			checkModule(t, "a function of another length", text+"\x00\x7f"+strings.Repeat("\x00", 127), api.Module{}, api.ErrForm)
		}
	}
	for _, c := range []string{"\x00", "\x01\x00", "\x01\x0b", "\x02\x00\x01", "\x03\x00\x0b\x0b", "\x03\x00\x0b\x00", "\xff\xff\xff\xff\x0f\x00\x0b", "\x82\x80\x80\x80\x80\x00\x00\x0b", "\x03\x00\x0b", ""} {
		checkModule(t, "a wrong function", header+sectionOf(3, "\x01\x00")+sectionOf(10, "\x01"+c), api.Module{}, api.ErrForm)
		checkModule(t, "a wrong function ahead of another section", header+sectionOf(3, "\x01\x00")+sectionOf(10, "\x01"+c)+"\x0b\x01\x00", api.Module{}, api.ErrForm)
	}
}

// P11.2: segments of references: all their beginnings.
func TestElems(t *testing.T) {
	offset := list(number(7))
	funcs := [][]api.Instr{ref(1), ref(200)}
	for _, c := range []struct {
		digits string
		want   api.Elem
	}{
		{"00 41 07 0b 02 01 c8 01", api.Elem{Ref: api.FuncRef, Offset: offset, Init: funcs}},
		{"00 0b 00", api.Elem{Ref: api.FuncRef}},
		{"01 00 02 01 c8 01", api.Elem{Ref: api.FuncRef, Mode: api.Passive, Init: funcs}},
		{"01 00 00", api.Elem{Ref: api.FuncRef, Mode: api.Passive}},
		{"02 80 01 41 07 0b 00 02 01 c8 01", api.Elem{Ref: api.FuncRef, Table: 128, Offset: offset, Init: funcs}},
		{"02 00 41 07 0b 00 02 01 c8 01", api.Elem{Ref: api.FuncRef, Offset: offset, Init: funcs}},
		{"02 ff ff ff ff 0f 0b 00 00", api.Elem{Ref: api.FuncRef, Table: math.MaxUint32}},
		{"03 00 02 01 c8 01", api.Elem{Ref: api.FuncRef, Mode: api.Declared, Init: funcs}},
		{"03 00 01 ff ff ff ff 0f", api.Elem{Ref: api.FuncRef, Mode: api.Declared, Init: [][]api.Instr{ref(math.MaxUint32)}}},
		{"04 41 07 0b 02 d2 01 0b d2 c8 01 0b", api.Elem{Ref: api.FuncRef, Offset: offset, Init: funcs}},
		{"04 41 07 0b 02 d2 01 0b d0 70 0b", api.Elem{Ref: api.FuncRef, Offset: offset, Init: [][]api.Instr{ref(1), null(api.FuncRef)}}},
		{"04 0b 01 d0 6f 0b", api.Elem{Ref: api.FuncRef, Init: [][]api.Instr{null(api.ExternRef)}}},
		{"04 0b 00", api.Elem{Ref: api.FuncRef}},
		{"05 70 01 d2 01 0b", api.Elem{Ref: api.FuncRef, Mode: api.Passive, Init: funcs[:1]}},
		{"05 70 00", api.Elem{Ref: api.FuncRef, Mode: api.Passive}},
		{"05 6f 02 0b 01 01 0b", api.Elem{Ref: api.ExternRef, Mode: api.Passive, Init: [][]api.Instr{nil, {plain(), plain()}}}},
		{"06 00 41 07 0b 70 01 d2 01 0b", api.Elem{Ref: api.FuncRef, Offset: offset, Init: funcs[:1]}},
		{"06 03 0b 6f 01 d0 6f 0b", api.Elem{Ref: api.ExternRef, Table: 3, Init: [][]api.Instr{null(api.ExternRef)}}},
		{"06 00 0b 6f 01 d2 01 0b", api.Elem{Ref: api.ExternRef, Init: funcs[:1]}},
		{"07 70 01 d2 01 0b", api.Elem{Ref: api.FuncRef, Mode: api.Declared, Init: funcs[:1]}},
		{"80 00 41 07 0b 00", api.Elem{Ref: api.FuncRef, Offset: offset}},
		{"81 80 80 80 00 00 00", api.Elem{Ref: api.FuncRef, Mode: api.Passive}},
		{"82 00 80 00 41 07 0b 00 00", api.Elem{Ref: api.FuncRef, Offset: offset}},
		{"87 80 00 6f 00", api.Elem{Ref: api.ExternRef, Mode: api.Declared}},
		{"07 6f 01 02 40 d2 01 0b 0b", api.Elem{Ref: api.ExternRef, Mode: api.Declared, Init: [][]api.Instr{{block(ref(1)...)}}}},
	} {
		text := raw(t, c.digits)
		checkModule(t, c.digits, header+sectionOf(9, "\x01"+text), api.Module{Elems: []api.Elem{c.want}}, api.OK)
		checkModule(t, c.digits+" between others", header+sectionOf(9, "\x03\x01\x00\x00"+text+"\x07\x6f\x00"), api.Module{Elems: []api.Elem{{Ref: api.FuncRef, Mode: api.Passive}, c.want, {Ref: api.ExternRef, Mode: api.Declared}}}, api.OK)
		for size := range len(text) {
			checkModule(t, c.digits+" that ends too early", header+sectionOf(9, "\x01"+text[:size]), api.Module{}, api.ErrForm)
		}
		checkModule(t, c.digits+" with something behind it", header+sectionOf(9, "\x01"+text+"\x00"), api.Module{}, api.ErrForm)
	}
	for number := 8; number < 256; number++ {
		for _, behind := range []string{"", "\x00", "\x0b\x00", "\x00\x00", "\x00\x0b\x00\x00", "\x00\x0b\x70\x00", "\x70\x00"} {
			checkModule(t, "a segment of no number", header+sectionOf(9, "\x01"+oneByte(number)+behind), api.Module{}, api.ErrForm)
		}
	}
	for _, digits := range []string{"00 0b 01", "00 00", "01 70 00", "02 0b 00 00", "02 00 0b 70 00", "03 01 00", "04 0b 01 01", "05 00 00", "06 00 0b 00 00", "07 7f 00", "01 00 01 80 80 80 80 10", "02 80 80 80 80 10 0b 00 00", "00 05 0b 00", "05 70 01 05 0b", "88 00 0b 00", "81 80 80 80 80 00 00 00", "81 80 80 80 10 00 00"} {
		checkModule(t, "a wrong segment", header+sectionOf(9, "\x01"+raw(t, digits)), api.Module{}, api.ErrForm)
	}
}

// P11.2: segments of bytes.
func TestDatas(t *testing.T) {
	offset := list(number(7))
	for _, c := range []struct {
		digits string
		want   api.Data
	}{
		{"00 41 07 0b 03 00 ff 80", api.Data{Offset: offset, Bytes: []byte{0, 255, 128}}},
		{"00 0b 00", api.Data{}},
		{"01 02 01 02", api.Data{Mode: api.Passive, Bytes: []byte{1, 2}}},
		{"01 00", api.Data{Mode: api.Passive}},
		{"02 00 41 07 0b 01 09", api.Data{Offset: offset, Bytes: []byte{9}}},
		{"02 80 00 0b 00", api.Data{}},
		{"02 01 41 07 0b 01 09", api.Data{Mem: 1, Offset: offset, Bytes: []byte{9}}},
		{"02 ff ff ff ff 0f 0b 00", api.Data{Mem: math.MaxUint32}},
		{"80 00 41 07 0b 00", api.Data{Offset: offset}},
		{"81 80 80 80 00 01 09", api.Data{Mode: api.Passive, Bytes: []byte{9}}},
		{"82 00 81 00 0b 00", api.Data{Mem: 1}},
	} {
		text := raw(t, c.digits)
		checkModule(t, c.digits, header+sectionOf(11, "\x01"+text), api.Module{Datas: []api.Data{c.want}}, api.OK)
		checkModule(t, c.digits+" between others", header+sectionOf(12, "\x03")+sectionOf(11, "\x03\x01\x00"+text+"\x01\x01\x05"), api.Module{Count: true, Datas: []api.Data{{Mode: api.Passive}, c.want, {Mode: api.Passive, Bytes: []byte{5}}}}, api.OK)
		for size := range len(text) {
			checkModule(t, c.digits+" that ends too early", header+sectionOf(11, "\x01"+text[:size]), api.Module{}, api.ErrForm)
		}
		checkModule(t, c.digits+" with something behind it", header+sectionOf(11, "\x01"+text+"\x00"), api.Module{}, api.ErrForm)
	}
	for _, digits := range []string{"03 00", "03 00 0b 00", "04 0b 00", "ff 00", "02 0b 00", "02 80 80 80 80 10 0b 00", "01 ff ff ff ff 0f 00", "01 02 00", "00 05 0b 00", "00 0b 80 80 80 80 80 00", "83 00 0b 00", "80 80 80 80 80 00 0b 00", "80 80 80 80 10 0b 00"} {
		checkModule(t, "a wrong segment", header+sectionOf(11, "\x01"+raw(t, digits)), api.Module{}, api.ErrForm)
	}
	many := []byte(strings.Repeat("\xee", 1<<20))
	checkModule(t, "many bytes", header+sectionOf(11, "\x01\x01"+sized(string(many))), api.Module{Datas: []api.Data{{Mode: api.Passive, Bytes: many}}}, api.OK)
}

// P11.2: what two sections tell of one thing must fit.
func TestSectionsThatFit(t *testing.T) {
	function := "\x02\x00\x0b"
	for types := range 4 {
		for bodies := range 4 {
			text := header
			if types > 0 {
				text += sectionOf(3, oneByte(types-1)+strings.Repeat("\x07", types-1))
			}
			if bodies > 0 {
				text += sectionOf(10, oneByte(bodies-1)+strings.Repeat(function, bodies-1))
			}
			if count := max(0, types-1); count == max(0, bodies-1) {
				checkModule(t, "functions", text, api.Module{Funcs: slices.Repeat([]api.Code{{Type: 7}}, count)}, api.OK)
			} else {
				checkModule(t, "functions that don't fit", text, api.Module{}, api.ErrForm)
			}
		}
	}
	for datas := range 4 {
		section := ""
		if datas > 0 {
			section = sectionOf(11, oneByte(datas-1)+strings.Repeat("\x01\x00", datas-1))
		}
		for _, count := range []int{0, 1, 2, 3, 127, 128, 1 << 16, 1<<32 - 1} {
			text := header + sectionOf(12, writtenU(count)) + section
			if count == max(0, datas-1) {
				checkModule(t, "data", text, api.Module{Count: true, Datas: slices.Repeat([]api.Data{{Mode: api.Passive}}, count)}, api.OK)
			} else {
				checkModule(t, "data that don't fit", text, api.Module{}, api.ErrForm)
			}
		}
	}
}

// P11.2: without a section 12, no function has an instruction with a segment of bytes.
func TestCount(t *testing.T) {
	data := sectionOf(11, "\x01\x01\x00")
	datas := []api.Data{{Mode: api.Passive}}
	for _, c := range []struct {
		text string
		l    []api.Instr
	}{
		{"\xfc\x08\x00\x00", list(api.Instr{Op: 0xfc08})},
		{"\xfc\x09\x00", list(api.Instr{Op: 0xfc09})},
		{"\x01\x02\x40\xfc\x09\x00\x0b", list(plain(), block(api.Instr{Op: 0xfc09}))},
		{"\x04\x40\x05\x03\x40\xfc\x08\x00\x00\x0b\x0b", list(fork(nil, list(api.Instr{Op: 0x03, Body: list(api.Instr{Op: 0xfc08})})))},
	} {
		function := sized("\x00" + c.text + "\x0b")
		types, bodies := sectionOf(3, "\x02\x00\x00"), sectionOf(10, "\x02\x02\x00\x0b"+function)
		funcs := []api.Code{{}, {Body: c.l}}
		checkModule(t, "with a count", header+types+sectionOf(12, "\x01")+bodies+data, api.Module{Count: true, Funcs: funcs, Datas: datas}, api.OK)
		checkModule(t, "with a count of nothing", header+types+sectionOf(12, "\x00")+bodies, api.Module{Count: true, Funcs: funcs}, api.OK)
		checkModule(t, "without a count", header+types+bodies+data, api.Module{}, api.ErrForm)
		checkModule(t, "without a count and data", header+types+bodies, api.Module{}, api.ErrForm)
		checkModule(t, "with a count too late", header+types+bodies+sectionOf(12, "\x01")+data, api.Module{}, api.ErrForm)
		for _, p := range placesOfCode(c.text+"\x0b", c.l)[1:] {
			if p.m.Count {
				t.Error(p.what, "has a count")
			}
			checkModule(t, "without a count in "+p.what, p.text, p.m, api.OK)
		}
		checkCode(t, "by itself", c.text+"\x0b", c.l, api.OK)
	}
	for _, text := range []string{"\xfc\x0a\x00\x00", "\xfc\x0b\x00", "\xfc\x0c\x00\x00", "\xfc\x0d\x00", "\xfc\x0e\x00\x00", "\x28\x00\x00"} {
		l, e := modelCode(text + "\x0b")
		checkModule(t, "no segment of bytes", header+sectionOf(3, "\x01\x00")+sectionOf(10, "\x01"+sized("\x00"+text+"\x0b")), api.Module{Funcs: []api.Code{{Body: l}}}, e)
	}
}

// checkModelModule holds what Module answers against the second working-out.
func checkModelModule(t *testing.T, what, text string) api.Errno {
	t.Helper()
	want, e := modelModule(text)
	checkModule(t, what, text, want, e)
	return e
}

// P11.2, P11.3: the full module with one byte changed to any other, left out, or put in.
func TestEachChange(t *testing.T) {
	text := written(full(), nil)
	checkModule(t, "the full module", text, full(), api.OK)
	good := 0
	for i := range text {
		left, right := text[:i], text[i+1:]
		for c := range 256 {
			if checkModelModule(t, "a byte changed", left+oneByte(c)+right) == api.OK {
				good++
			}
		}
		for _, c := range []int{0x00, 0x01, 0x05, 0x0b, 0x7f, 0x80} {
			checkModelModule(t, "a byte put in", left+oneByte(c)+text[i:])
		}
		checkModelModule(t, "a byte left out", left+right)
		checkModelModule(t, "the beginning", left)
	}
	if good < 5000 {
		t.Error("only", good, "are good")
	}
}

// P11.2, P11.3: modules without a pattern, with changes in their bytes, against the second working-out.
func TestChangedModules(t *testing.T) {
	s := sequence(3)
	good := 0
	for range 20000 {
		text := s.changed(written(s.module(), &s))
		if checkModelModule(t, "changed", text) == api.OK {
			good++
		}
	}
	if good < 500 || good > 19500 {
		t.Error(good, "are good")
	}
}

// P11.3: numbers of elements that are too great, and many elements.
func TestManyElements(t *testing.T) {
	for _, number := range []int{1, 2, 3, 4, 5, 6, 7, 9, 10, 11} {
		for _, count := range []int{2, 128, 1 << 16, 1<<31 - 1, 1 << 31, 1<<32 - 1} {
			checkModule(t, "too few", header+sectionOf(number, writtenU(count)), api.Module{}, api.ErrForm)
			checkModule(t, "too few but some", header+sectionOf(number, writtenU(count)+"\x60\x00\x00"), api.Module{}, api.ErrForm)
		}
	}
	types := strings.Repeat("\x60\x01\x7f\x00", 1<<16)
	checkModule(t, "many types", header+sectionOf(1, writtenU(1<<16)+types), api.Module{Types: slices.Repeat([]api.FuncType{{Params: []int{api.I32}}}, 1<<16)}, api.OK)
	checkModule(t, "many types but one", header+sectionOf(1, writtenU(1<<16+1)+types), api.Module{}, api.ErrForm)
	checkModule(t, "many types and more", header+sectionOf(1, writtenU(1<<16-1)+types), api.Module{}, api.ErrForm)
	funcs := header + sectionOf(3, writtenU(1<<16)+strings.Repeat("\x05", 1<<16)) + sectionOf(10, writtenU(1<<16)+strings.Repeat("\x03\x00\x01\x0b", 1<<16))
	checkModule(t, "many functions", funcs, api.Module{Funcs: slices.Repeat([]api.Code{{Type: 5, Body: list(plain())}}, 1<<16)}, api.OK)
	checkModule(t, "many sections to ignore", header+strings.Repeat("\x00\x01\x00", 1<<16), api.Module{}, api.OK)
}

// P11.3: equal calls answer the same.
func TestEqualCalls(t *testing.T) {
	text := written(full(), nil)
	for range 3 {
		checkModule(t, "the full module", text, full(), api.OK)
		checkModule(t, "half of it", text[:len(text)/2], api.Module{}, api.ErrForm)
	}
	if _, e := decode.Module(nil); e != api.ErrForm {
		t.Error("nothing is", int(e))
	}
	if _, e := decode.Code(nil); e != api.ErrForm {
		t.Error("no code is", int(e))
	}
}
