package inst_test

import (
	"bytes"
	"slices"
	"strings"
	"testing"

	"bodkin/api"
	"bodkin/inst"
	"bodkin/run"
	"bodkin/store"
)

// segments makes a module with a table of size elements, a memory of so many pages, and active segments. Each word of elems is an offset and how many elements, each word of datas an offset and the bytes.
func segments(size, pages int, elems, datas string) api.Module {
	m := api.Module{Types: []api.FuncType{{}}, Funcs: make([]api.Code, 3), Tables: []api.TableType{{Ref: api.FuncRef, L: api.Limits{Min: size}}}, Mems: []api.Limits{{Min: pages}}}
	for i, word := range strings.Fields(elems) {
		at, count, _ := strings.Cut(word, ":")
		e := api.Elem{Ref: api.FuncRef, Offset: code("i32.const:" + at)}
		for range number(count) {
			e.Init = append(e.Init, []api.Instr{{Op: 0xd2, A: i}})
		}
		m.Elems = append(m.Elems, e)
	}
	for _, word := range strings.Fields(datas) {
		at, text, _ := strings.Cut(word, ":")
		m.Datas = append(m.Datas, api.Data{Offset: code("i32.const:" + at), Bytes: []byte(text)})
	}
	return m
}

// shown are a table's elements, each the index of its function, or a dot.
func shown(l []api.Value) string {
	out := ""
	for _, v := range l {
		if v.Null {
			out += "."
		} else {
			out += string(rune('0' + v.Lo))
		}
	}
	return out
}

// P16.2: active segments, at the ends of tables and memories. What fits is written and empty from then on, and what comes behind an error is neither.
func TestSegments(t *testing.T) {
	for _, c := range []struct {
		elems, datas string
		e            api.Errno
		table        string
		memory       string // its last bytes
		left         string // which segments are not empty, elements first
	}{
		{"", "", 0, "....", "\x00\x00\x00\x00", ""},
		{"0:4", "65532:abcd", 0, "0000", "abcd", "00"},
		{"1:2", "65533:ab", 0, ".00.", "\x00ab\x00", "00"},
		{"3:1", "65535:a", 0, "...0", "\x00\x00\x00a", "00"},
		{"4:0", "65536:", 0, "....", "\x00\x00\x00\x00", "00"},
		{"0:0", "0:", 0, "....", "\x00\x00\x00\x00", "00"},
		{"5:0", "65532:a", api.TrapTable, "....", "\x00\x00\x00\x00", "01"},
		{"4:1", "65532:a", api.TrapTable, "....", "\x00\x00\x00\x00", "11"},
		{"3:2", "65532:a", api.TrapTable, "....", "\x00\x00\x00\x00", "11"},
		{"0:5", "", api.TrapTable, "....", "\x00\x00\x00\x00", "1"},
		{"-1:1", "", api.TrapTable, "....", "\x00\x00\x00\x00", "1"},
		{"-1:0", "", api.TrapTable, "....", "\x00\x00\x00\x00", "0"},
		{"0x80000000:1", "", api.TrapTable, "....", "\x00\x00\x00\x00", "1"},
		{"0:1", "65537:", api.TrapMemory, "0...", "\x00\x00\x00\x00", "00"},
		{"0:1", "65536:a", api.TrapMemory, "0...", "\x00\x00\x00\x00", "01"},
		{"0:1", "65535:ab", api.TrapMemory, "0...", "\x00\x00\x00\x00", "01"},
		{"", "-1:a", api.TrapMemory, "....", "\x00\x00\x00\x00", "1"},
		{"", "-1:", api.TrapMemory, "....", "\x00\x00\x00\x00", "0"},
		{"0:2 1:2 2:2", "65532:ab 65533:cd 65534:ef", 0, "0122", "acef", "000000"},
		{"2:2 1:2 0:2", "65534:ab 65533:cd 65532:ef", 0, "2210", "efdb", "000000"},
		{"0:2 3:2 1:2", "65532:ab", api.TrapTable, "00..", "\x00\x00\x00\x00", "0111"},
		{"0:2 3:2 9:9", "65539:ab", api.TrapTable, "00..", "\x00\x00\x00\x00", "0111"},
		{"0:2 1:1", "65532:ab 65535:cd 65534:ef", api.TrapMemory, "01..", "ab\x00\x00", "00011"},
		{"0:2", "65532:ab 65535:c 65536:d 65533:e", api.TrapMemory, "00..", "ab\x00c", "00011"},
	} {
		s := &store.Store{}
		want := outcome{e: c.e}
		placed(t, s, segments(4, 1, c.elems, c.datas), nil, usual, want)
		left := ""
		for _, l := range s.Elems {
			left += string(rune('0' + min(1, len(l))))
		}
		for _, b := range s.Datas {
			left += string(rune('0' + min(1, len(b))))
		}
		table, memory := shown(s.Tables[0].L), string(s.Mems[0].B[65532:])
		if table != c.table || memory != c.memory || left != c.left || len(s.Insts) != 1 {
			t.Errorf("%q, %q leaves %q, %q, %q", c.elems, c.datas, table, memory, left)
		}
		if slices.ContainsFunc(s.Mems[0].B[:65532], func(b byte) bool { return b != 0 }) || len(s.Mems[0].B) != 65536 {
			t.Errorf("%q is also elsewhere", c.datas)
		}
	}
}

// P16.2: segments in tables and memories without elements and pages.
func TestSegmentsOfNothing(t *testing.T) {
	for _, c := range []struct {
		elems, datas string
		e            api.Errno
	}{
		{"0:0", "0:", 0}, {"1:0", "0:", api.TrapTable}, {"0:1", "0:", api.TrapTable}, {"0:0", "1:", api.TrapMemory}, {"0:0", "0:a", api.TrapMemory}, {"1:0", "1:", api.TrapTable},
	} {
		placed(t, &store.Store{}, segments(0, 0, c.elems, c.datas), nil, usual, outcome{e: c.e})
	}
}

// P16.2: passive segments stay as they are, and declared ones have no references; neither is copied.
func TestOtherSegments(t *testing.T) {
	m := segments(2, 1, "0:2 0:9 0:9", "0:abc 0:"+strings.Repeat("x", 70000))
	for i, mode := range []int{api.Declared, api.Passive} {
		m.Elems[1+i].Mode, m.Elems[1+i].Offset = mode, nil
	}
	m.Datas[1].Mode, m.Datas[1].Offset = api.Passive, nil
	s := world()
	placed(t, s, m, nil, usual, outcome{number: 2})
	if len(s.Elems) != 5 || len(s.Elems[2]) != 0 || len(s.Elems[3]) != 0 || len(s.Elems[4]) != 9 || len(s.Datas) != 5 || len(s.Datas[3]) != 0 || len(s.Datas[4]) != 70000 {
		t.Error("there are the segments", s.Elems, len(s.Datas))
	}
	if got := s.Tables[4].L; !slices.Equal(got, values("func:6 func:6")) {
		t.Error("the table has", got)
	}
	if got := s.Mems[3].B[:5]; string(got) != "abc\x00\x00" {
		t.Error("the memory has", got)
	}
}

// P16.2, the chapter's example: neither byte of a segment that does not fit is written.
func TestExamples(t *testing.T) {
	s := &store.Store{}
	placed(t, s, segments(0, 1, "", "65535:ab"), nil, usual, outcome{e: api.TrapMemory})
	if slices.Max(s.Mems[0].B) != 0 {
		t.Error("a byte is written")
	}
	s = world()
	m := api.Module{Imports: []api.Import{memImport("2")}}
	if got := instantiate(s, m, []inst.Extern{{Kind: api.Mem, Addr: 1}}, usual); got != (outcome{e: api.ErrLink}) {
		t.Error("a memory of one page for two is", got)
	}
	placed(t, s, m, []inst.Extern{{Kind: api.Mem}}, usual, outcome{number: 2})
}

// started makes a module with a start function, with the host's function "->" of world ahead of it, a table, a memory with "abc", and globals that can be changed.
func started(body string) (api.Module, []inst.Extern) {
	m := segments(2, 1, "0:2", "0:abc")
	m.Imports = []api.Import{funcImport(0)}
	m.Funcs = []api.Code{{}, {Body: code(body)}, {Body: code("call:0 call:3")}}
	m.Globals = []api.Var{{Type: globalType("mut i32"), Init: code("i32.const:1")}}
	m.Exports = []api.Export{{Name: "g", Kind: api.Global}, {Name: "f", Index: 2}}
	m.Start = 3
	return m, []inst.Extern{{}}
}

// P16.2: the start function is run within limits, when all segments are there. Its steps are told also with an error, and what it has done remains.
func TestStart(t *testing.T) {
	for _, c := range []struct {
		body  string
		l     run.Limits
		want  outcome
		value uint64 // of the global
		calls int    // of the host's function
	}{
		{"", usual, outcome{number: 2}, 1, 0},
		{"nop nop", usual, outcome{2, 2, 0}, 1, 0},
		{"i32.const:0 i32.load8_u:0,1 global.set:0", usual, outcome{2, 3, 0}, 'b', 0},
		{"i32.const:0 table.get:0 ref.is_null global.set:0", usual, outcome{2, 4, 0}, 0, 0},
		{"i32.const:5 global.set:0 unreachable nop", usual, outcome{0, 3, api.TrapUnreachable}, 5, 0},
		{"i32.const:5 global.set:0 loop br:0 end", usual, outcome{0, 1000, api.ErrFuel}, 5, 0},
		{"i32.const:5 global.set:0 nop", run.Limits{Fuel: 2, Depth: 1, Pages: 1}, outcome{0, 2, api.ErrFuel}, 5, 0},
		{"i32.const:5 global.set:0 nop", run.Limits{Fuel: 3, Depth: 1, Pages: 1}, outcome{2, 3, 0}, 5, 0},
		{"i32.const:5 global.set:0", run.Limits{Depth: 1, Pages: 1}, outcome{e: api.ErrFuel}, 1, 0},
		{"i32.const:5 global.set:0", run.Limits{Fuel: 9, Pages: 1}, outcome{e: api.ErrDepth}, 1, 0},
		{"call:0 call:0 i32.const:70000 i32.load8_u:0,0 drop", usual, outcome{0, 4, api.TrapMemory}, 1, 2},
		{"i32.const:0 call_indirect:0,0 call:0", usual, outcome{2, 3, 0}, 1, 2},
		{"i32.const:1 i32.const:0 i32.div_u global.set:0", usual, outcome{0, 3, api.TrapDiv}, 1, 0},
		{"call:3", usual, outcome{0, 20, api.ErrDepth}, 1, 10},
		{"i32.const:1 memory.grow global.set:0", run.Limits{Fuel: 9, Depth: 1, Pages: 2}, outcome{2, 3, 0}, 1, 0},
		{"i32.const:1 memory.grow global.set:0", run.Limits{Fuel: 9, Depth: 1, Pages: 1}, outcome{2, 3, 0}, 0xffffffff, 0},
	} {
		s := world()
		m, given := started(c.body)
		if strings.Contains(c.body, "call:3") {
			m.Start = 4
			m.Funcs[2].Body = code("call:0 " + c.body)
		}
		placed(t, s, m, given, c.l, c.want)
		if got := s.Globals[18].V; got != (api.Value{Type: api.I32, Lo: c.value}) {
			t.Error(c.body, "leaves", got)
		}
		if len(s.Insts) != 3 || len(s.Log) != 1+c.calls || len(s.Elems[2]) != 0 || string(s.Mems[3].B[:3]) != "abc" {
			t.Error(c.body, "leaves", len(s.Insts), "instances and the log", s.Log)
		}
		for _, x := range s.Log[1:] {
			if x.Host != 9 || len(x.Args) != 0 {
				t.Error(c.body, "logs", x)
			}
		}
	}
}

// P16.2: nothing is started if a segment does not fit.
func TestStartIsLast(t *testing.T) {
	for _, c := range []struct {
		elem, data string
		e          api.Errno
	}{{"1", "0", api.TrapTable}, {"0", "65534", api.TrapMemory}} {
		s := world()
		m, given := started("i32.const:5 global.set:0 call:0")
		m.Elems[0].Offset, m.Datas[0].Offset = code("i32.const:"+c.elem), code("i32.const:"+c.data)
		placed(t, s, m, given, usual, outcome{e: c.e})
		if s.Globals[18].V.Lo != 1 || len(s.Log) != 1 {
			t.Error("the start function has been called", s.Globals[18], s.Log)
		}
	}
}

// P16.2: the start function may be imported: the host's, which is no step, or another instance's.
func TestStartImported(t *testing.T) {
	s := world()
	m, given := started("i32.const:5 global.set:0 call:0")
	m.Start = 1
	placed(t, s, m, given, run.Limits{Pages: 1}, outcome{number: 2})
	if len(s.Log) != 2 || s.Log[1].Host != 9 || s.Globals[18].V.Lo != 1 {
		t.Error("the log is", s.Log, "and the global", s.Globals[18])
	}
	f, ok := inst.Find(s, 2, "f")
	other := api.Module{Types: []api.FuncType{{}}, Imports: []api.Import{{Module: "a", Name: "b"}}, Start: 1}
	placed(t, s, other, []inst.Extern{f}, usual, outcome{3, 3, 0})
	if !ok || len(s.Log) != 3 || s.Globals[18].V.Lo != 5 {
		t.Error("the log is", s.Log, "and the global", s.Globals[18])
	}
	placed(t, s, other, []inst.Extern{f}, run.Limits{Fuel: 1, Depth: 1}, outcome{0, 1, api.ErrFuel})
	if len(s.Insts) != 5 || len(s.Insts[4].Funcs) != 1 {
		t.Error("there are", len(s.Insts), "instances")
	}
}

// P16.2: the functions of an instance that has ended with an error can be called, where they are in a table.
func TestWhatRemains(t *testing.T) {
	s := world()
	m := typed()
	m.Imports = []api.Import{tableImport("func 1"), memImport("1")}
	m.Funcs = []api.Code{{Type: 2, Body: code("global.get:0")}, {Body: code("unreachable")}}
	m.Globals = []api.Var{{Type: globalType("i32"), Init: code("i32.const:99")}}
	m.Elems = []api.Elem{{Ref: api.FuncRef, Offset: code("i32.const:2"), Init: codes("ref.func:0")}}
	m.Datas = []api.Data{{Offset: code("i32.const:65536"), Bytes: bytes.Repeat([]byte("z"), 65536)}, {Offset: code("i32.const:131072"), Bytes: []byte("z")}}
	m.Start = 2
	given := []inst.Extern{{Kind: api.Table}, {Kind: api.Mem}}
	placed(t, s, m, given, usual, outcome{e: api.TrapMemory})
	if !slices.Equal(s.Tables[0].L, values("func:null func:1 func:6")) || s.Mems[0].B[65535] != 0 || s.Mems[0].B[65536] != 'z' || s.Mems[0].B[131071] != 'z' {
		t.Error("the table has", s.Tables[0].L)
	}
	m.Datas[1].Offset = code("i32.const:131071")
	placed(t, s, m, given, usual, outcome{0, 1, api.TrapUnreachable})
	if !slices.Equal(s.Tables[0].L, values("func:null func:1 func:8")) || len(s.Insts) != 4 {
		t.Error("the table has", s.Tables[0].L)
	}
	out, steps, e := run.Invoke(s, 8, nil, usual)
	if !slices.Equal(out, values("i32:99")) || steps != 1 || e != api.OK {
		t.Error("a call leaves", out, steps, int(e))
	}
}
