package run_test

import (
	"bytes"
	"testing"

	"bodkin/api"
	"bodkin/ops"
	"bodkin/run"
	"bodkin/store"
)

// P15.3: loads from the memory of world, which has pattern at 16.
func TestLoads(t *testing.T) {
	const at16 = "i32.const:16 "
	checkAll(t, []byHand{
		{"-> i32", at16 + "i32.load:2,0", "", "i32:0x84838281", 2, 0},
		{"-> i64", at16 + "i64.load:3,0", "", "i64:0x8887868584838281", 2, 0},
		{"-> f32", at16 + "f32.load:2,0", "", "f32:0x84838281", 2, 0},
		{"-> f64", at16 + "f64.load:3,0", "", "f64:0x8887868584838281", 2, 0},
		{"-> i32", at16 + "i32.load8_s:0,0", "", "i32:0xffffff81", 2, 0},
		{"-> i32", at16 + "i32.load8_u:0,0", "", "i32:0x81", 2, 0},
		{"-> i32", at16 + "i32.load16_s:0,0", "", "i32:0xffff8281", 2, 0},
		{"-> i32", at16 + "i32.load16_u:0,0", "", "i32:0x8281", 2, 0},
		{"-> i64", at16 + "i64.load8_s:0,0", "", "i64:0xffffffffffffff81", 2, 0},
		{"-> i64", at16 + "i64.load8_u:0,0", "", "i64:0x81", 2, 0},
		{"-> i64", at16 + "i64.load16_s:0,0", "", "i64:0xffffffffffff8281", 2, 0},
		{"-> i64", at16 + "i64.load16_u:0,0", "", "i64:0x8281", 2, 0},
		{"-> i64", at16 + "i64.load32_s:0,0", "", "i64:0xffffffff84838281", 2, 0},
		{"-> i64", at16 + "i64.load32_u:0,0", "", "i64:0x84838281", 2, 0},
		{"-> i32", at16 + "i32.load8_s:0,8", "", "i32:9", 2, 0},
		{"-> i64", at16 + "i64.load32_s:0,8", "", "i64:0x0c0b0a09", 2, 0},
		{"-> v128", at16 + "v128.load:4,0", "", "v128:0x8887868584838281,0x100f0e0d0c0b0a09", 2, 0},
		{"-> v128", at16 + "v128.load8x8_s:0,4", "", "v128:0xff88ff87ff86ff85,0x000c000b000a0009", 2, 0},
		{"-> v128", at16 + "v128.load8x8_u:0,4", "", "v128:0x0088008700860085,0x000c000b000a0009", 2, 0},
		{"-> v128", at16 + "v128.load16x4_s:0,4", "", "v128:0xffff8887ffff8685,0x00000c0b00000a09", 2, 0},
		{"-> v128", at16 + "v128.load16x4_u:0,4", "", "v128:0x0000888700008685,0x00000c0b00000a09", 2, 0},
		{"-> v128", at16 + "v128.load32x2_s:0,4", "", "v128:0xffffffff88878685,0x000000000c0b0a09", 2, 0},
		{"-> v128", at16 + "v128.load32x2_u:0,4", "", "v128:0x0000000088878685,0x000000000c0b0a09", 2, 0},
		{"-> v128", at16 + "v128.load8_splat:0,0", "", "v128:0x8181818181818181,0x8181818181818181", 2, 0},
		{"-> v128", at16 + "v128.load16_splat:0,0", "", "v128:0x8281828182818281,0x8281828182818281", 2, 0},
		{"-> v128", at16 + "v128.load32_splat:0,0", "", "v128:0x8483828184838281,0x8483828184838281", 2, 0},
		{"-> v128", at16 + "v128.load64_splat:0,0", "", "v128:0x8887868584838281,0x8887868584838281", 2, 0},
		{"-> v128", at16 + "v128.load32_zero:0,0", "", "v128:0x84838281,0", 2, 0},
		{"-> v128", at16 + "v128.load64_zero:0,0", "", "v128:0x8887868584838281,0", 2, 0},
		{"-> v128", at16 + "v128.const:-1,-2 v128.load8_lane:0,0,15", "", "v128:-1,0x81fffffffffffffe", 3, 0},
		{"-> v128", at16 + "v128.const:-1,-2 v128.load16_lane:0,0,4", "", "v128:-1,0xffffffffffff8281", 3, 0},
		{"-> v128", at16 + "v128.const:-1,-2 v128.load32_lane:0,0,1", "", "v128:0x84838281ffffffff,-2", 3, 0},
		{"-> v128", at16 + "v128.const:-1,-2 v128.load64_lane:0,0,1", "", "v128:-1,0x8887868584838281", 3, 0},
	})
}

// P15.3: stores, at 2 of 32 bytes that are all 0xcc.
func TestStores(t *testing.T) {
	const i64 = "i64.const:0x0102030405060708 "
	const vector = "v128.const:0x0102030405060708,0x1112131415161718 "
	for _, c := range []struct{ value, store, want string }{
		{"i32.const:0x05060708 ", "i32.store:0,0", "\x08\x07\x06\x05"},
		{i64, "i64.store:0,0", "\x08\x07\x06\x05\x04\x03\x02\x01"},
		{"f32.const:0x05060708 ", "f32.store:0,0", "\x08\x07\x06\x05"},
		{"f64.const:0x0102030405060708 ", "f64.store:0,0", "\x08\x07\x06\x05\x04\x03\x02\x01"},
		{"i32.const:0x05060708 ", "i32.store8:0,0", "\x08"},
		{"i32.const:0x05060708 ", "i32.store16:0,0", "\x08\x07"},
		{i64, "i64.store8:0,0", "\x08"},
		{i64, "i64.store16:0,0", "\x08\x07"},
		{i64, "i64.store32:0,0", "\x08\x07\x06\x05"},
		{vector, "v128.store:0,0", "\x08\x07\x06\x05\x04\x03\x02\x01\x18\x17\x16\x15\x14\x13\x12\x11"},
		{vector, "v128.store8_lane:0,0,0", "\x08"},
		{vector, "v128.store8_lane:0,0,15", "\x11"},
		{vector, "v128.store16_lane:0,0,3", "\x02\x01"},
		{vector, "v128.store16_lane:0,0,4", "\x18\x17"},
		{vector, "v128.store32_lane:0,0,2", "\x18\x17\x16\x15"},
		{vector, "v128.store64_lane:0,0,0", "\x08\x07\x06\x05\x04\x03\x02\x01"},
		{vector, "v128.store64_lane:0,0,1", "\x18\x17\x16\x15\x14\x13\x12\x11"},
	} {
		body := "i32.const:0 i32.const:0xcc i32.const:32 memory.fill i32.const:2 " + c.value + c.store
		s, inst := byHand{"->", body, "", "", 7, 0}.check(t, usual)
		want := bytes.Repeat([]byte{0xcc}, 32)
		copy(want[2:], c.want)
		if got := s.Mems[inst.Mems[0]].B[:32]; !bytes.Equal(got, want) {
			t.Error(c.value, c.store, "leaves", got, "and not", want)
		}
	}
}

// accesses are all loads and stores, with how many bytes they access.
func accesses() map[int]int {
	out := map[int]int{}
	for _, op := range ops.All() {
		if align := ops.Align(op); align >= 0 {
			out[op] = 1 << align
		}
	}
	return out
}

// P15.3: each load and store up to the end of the memory and beyond it, with offsets.
func TestAccessBounds(t *testing.T) {
	for op, n := range accesses() {
		takes, leaves, _ := ops.Sign(op)
		for _, c := range []struct {
			at, offset int
			in         bool
		}{
			{api.PageSize - n, 0, true},
			{api.PageSize - n + 1, 0, false},
			{api.PageSize - n - 7, 7, true},
			{api.PageSize - n - 7, 8, false},
			{0, api.PageSize - n, true},
			{0, api.PageSize - n + 1, false},
			{1, api.PageSize - n, false},
			{api.PageSize, 0, false},
			{1<<32 - 1, 0, false},
			{1<<32 - 1, 1, false},
			{1<<32 - 16, 32, false},
			{32, 1<<32 - 16, false},
			{0, 1<<32 - 1, false},
			{1<<32 - 1, 1<<32 - 1, false},
			{1 << 31, 1 << 31, false},
		} {
			in := api.Instr{Op: op, B: c.offset}
			if ops.Imm(op) == ops.ImmMemLane {
				in.L = []int{1}
			}
			m := world("->", "")
			m.Types[0].Results = leaves
			m.Funcs[0].Body = append([]api.Instr{{Op: 0x41, N: uint64(c.at)}}, zero(takes[len(takes)-1])...)
			m.Funcs[0].Body = append(m.Funcs[0].Body[:len(takes)], in)
			s, inst := built(t, m)
			before := cloned(s)
			got := invoke(s, inst.Funcs[tested], nil, usual)
			want := outcome{got.out, 1 + len(takes), api.OK}
			if !c.in {
				want = outcome{nil, 1 + len(takes), api.TrapMemory}
			}
			if !got.same(want) || c.in && len(got.out) != len(leaves) {
				t.Error(ops.Name(op), "at", c.at, "with the offset", c.offset, "is", got)
			}
			if d := difference(s, before); d != "" && (!c.in || len(leaves) > 0) {
				t.Error(ops.Name(op), "at", c.at, "changes", d)
			}
		}
	}
}

// P15.3: the size of a memory, and its growth within its own limits and those of the run.
func TestMemoryGrow(t *testing.T) {
	grow := "local.get:0 memory.grow memory.size"
	for _, c := range []struct {
		n, was, is string
		pages      int
	}{
		{"i32:0", "i32:1", "i32:1", 1},
		{"i32:0", "i32:-1", "i32:1", 0},
		{"i32:1", "i32:-1", "i32:1", 1},
		{"i32:1", "i32:1", "i32:2", 2},
		{"i32:2", "i32:-1", "i32:1", 2},
		{"i32:2", "i32:1", "i32:3", 3},
		{"i32:2", "i32:1", "i32:3", 1 << 40},
		{"i32:3", "i32:-1", "i32:1", 4},
		{"i32:-1", "i32:-1", "i32:1", 1 << 40},
		{"i32:0x80000000", "i32:-1", "i32:1", 1 << 40},
	} {
		s, inst := byHand{"i32 -> i32 i32", grow, c.n, c.was + " " + c.is, 3, 0}.check(t, run.Limits{Fuel: 9, Depth: 9, Pages: c.pages})
		b := s.Mems[inst.Mems[0]].B
		if want := int(valuesOf(c.is)[0].Lo) * api.PageSize; len(b) != want || string(b[api.PageSize-8:api.PageSize]) != "stuvwxyz" || !bytes.Equal(b[api.PageSize:], make([]byte, want-api.PageSize)) {
			t.Error("after", c.n, "pages more the memory has", len(b), "bytes")
		}
	}
	checkAll(t, []byHand{
		{"-> i64", "i32.const:0x1fff8 i64.load:0,0", "", "", 2, api.TrapMemory},
		{"-> i64", "i32.const:1 memory.grow drop i32.const:0x1fff8 i64.load:0,0", "", "i64:0", 5, 0},
		{"-> i64", "i32.const:1 memory.grow drop i32.const:0x1fff9 i64.load:0,0", "", "", 5, api.TrapMemory},
		{"-> i64 i32", "i64.const:5 memory.size", "", "i64:5 i32:1", 2, 0},
	})
}

// three is a text of three operands and an instruction.
func three(a, b, c, in string) string {
	return "i32.const:" + a + " i32.const:" + b + " i32.const:" + c + " " + in
}

// P15.3: memory.fill, memory.copy, memory.init and data.drop.
func TestMemoryRanges(t *testing.T) {
	read := " i32.const:16 i64.load:0,0"
	trap := func(body string) byHand { return byHand{"->", body, "", "", 4, api.TrapMemory} }
	fine := func(body string) byHand { return byHand{"->", body, "", "", 4, 0} }
	checkAll(t, []byHand{
		{"-> i64", three("18", "0x1ff", "3", "memory.fill") + read, "", "i64:0x888786ffffff8281", 6, 0},
		{"-> i64", three("16", "0", "1", "memory.fill") + read, "", "i64:0x8887868584838200", 6, 0},
		fine(three("65536", "7", "0", "memory.fill")),
		fine(three("0", "7", "65536", "memory.fill")),
		trap(three("65537", "7", "0", "memory.fill")),
		trap(three("65535", "7", "2", "memory.fill")),
		trap(three("-1", "7", "1", "memory.fill")),
		trap(three("1", "7", "-1", "memory.fill")),
		{"-> i64", three("17", "16", "4", "memory.copy") + read, "", "i64:0x8887868483828181", 6, 0},
		{"-> i64", three("16", "18", "4", "memory.copy") + read, "", "i64:0x8887868586858483", 6, 0},
		fine(three("65536", "0", "0", "memory.copy")),
		fine(three("0", "65536", "0", "memory.copy")),
		trap(three("65537", "0", "0", "memory.copy")),
		trap(three("0", "65537", "0", "memory.copy")),
		trap(three("65535", "0", "2", "memory.copy")),
		trap(three("0", "65535", "2", "memory.copy")),
		trap(three("0", "0", "-1", "memory.copy")),
		{"-> i64", three("17", "5", "3", "memory.init:0") + read, "", "i64:0x8887868568676681", 6, 0},
		{"-> i64", three("16", "0", "8", "memory.init:0") + read, "", "i64:0x6867666564636261", 6, 0},
		fine(three("65528", "0", "8", "memory.init:0")),
		fine(three("65536", "8", "0", "memory.init:0")),
		trap(three("65529", "0", "8", "memory.init:0")),
		trap(three("0", "1", "8", "memory.init:0")),
		trap(three("0", "9", "0", "memory.init:0")),
		trap(three("65537", "0", "0", "memory.init:0")),
		fine(three("0", "0", "0", "memory.init:1")),
		trap(three("0", "0", "1", "memory.init:1")),
		fine(three("0", "0", "0", "memory.init:2")),
		trap(three("0", "0", "1", "memory.init:2")),
		{"->", "data.drop:0 " + three("0", "0", "0", "memory.init:0"), "", "", 5, 0},
		{"->", "data.drop:0 " + three("0", "1", "0", "memory.init:0"), "", "", 5, api.TrapMemory},
		{"->", "data.drop:0 " + three("0", "0", "1", "memory.init:0"), "", "", 5, api.TrapMemory},
		{"->", "data.drop:0 data.drop:0 data.drop:1", "", "", 3, 0},
		{"-> i64", "data.drop:1 " + three("16", "0", "8", "memory.init:0") + read, "", "i64:0x6867666564636261", 7, 0},
	})
}

// P15.3: data.drop asks for no memory, and elem.drop for no table.
func TestDropAlone(t *testing.T) {
	m := api.Module{Types: []api.FuncType{{}}, Funcs: []api.Code{{Body: code("data.drop:0 elem.drop:0")}}, Datas: []api.Data{{Mode: api.Passive}}, Elems: []api.Elem{{Ref: api.FuncRef, Mode: api.Passive}}, Count: true}
	inst := &store.Inst{Module: m, Funcs: []int{0}, Datas: []int{1}, Elems: []int{1}}
	s := &store.Store{Funcs: []store.Func{{}}, Datas: [][]byte{{1}, {2}, {3}}, Elems: [][]api.Value{{{}}, {{}}, {{}}}, Insts: []*store.Inst{inst}}
	if got := invoke(s, 0, nil, usual); !got.same(outcome{nil, 2, 0}) {
		t.Error("it is", got)
	}
	if len(s.Datas) != 3 || len(s.Datas[0]) != 1 || len(s.Datas[1]) != 0 || len(s.Datas[2]) != 1 {
		t.Error("the segments are", s.Datas)
	}
	if len(s.Elems) != 3 || len(s.Elems[0]) != 1 || len(s.Elems[1]) != 0 || len(s.Elems[2]) != 1 {
		t.Error("the segments are", s.Elems)
	}
}

// P15.3: single elements of tables, their sizes and their growth.
func TestElements(t *testing.T) {
	checkAll(t, []byHand{
		{"-> extern", "i32.const:2 table.get:0", "", "extern:77", 2, 0},
		{"-> func func", "i32.const:0 table.get:1 i32.const:1 table.get:1", "", "func:null func:10", 4, 0},
		{"-> extern", "i32.const:3 table.get:0", "", "extern:0xffffffffffffffff", 2, 0},
		{"-> extern", "i32.const:4 table.get:0", "", "", 2, api.TrapTable},
		{"-> extern", "i32.const:-1 table.get:0", "", "", 2, api.TrapTable},
		{"-> extern", "i32.const:0 table.get:2", "", "", 2, api.TrapTable},
		{"extern -> extern extern", "i32.const:3 local.get:0 table.set:0 i32.const:3 table.get:0 i32.const:2 table.get:0", "extern:5", "extern:5 extern:77", 7, 0},
		{"->", "i32.const:4 ref.null:extern table.set:0", "", "", 3, api.TrapTable},
		{"->", "i32.const:-1 ref.null:func table.set:1", "", "", 3, api.TrapTable},
		{"-> i32 i32 i32 i32", "table.size:0 table.size:1 table.size:2 table.size:3", "", "i32:4 i32:8 i32:0 i32:0", 4, 0},
		{"-> i32 i32 func func", "ref.func:3 i32.const:4 table.grow:1 table.size:1 i32.const:8 table.get:1 i32.const:11 table.get:1", "", "i32:8 i32:12 func:10 func:10", 8, 0},
		{"-> i32 i32", "ref.func:3 i32.const:5 table.grow:1 table.size:1", "", "i32:-1 i32:8", 4, 0},
		{"-> i32 i32", "ref.null:func i32.const:-1 table.grow:1 table.size:1", "", "i32:-1 i32:8", 4, 0},
		{"-> i32 i32", "ref.null:extern i32.const:0 table.grow:0 table.size:0", "", "i32:4 i32:4", 4, 0},
		{"-> i32 i32", "ref.null:extern i32.const:10000 table.grow:2 table.size:2", "", "i32:0 i32:10000", 4, 0},
		{"-> i32 i32", "ref.null:extern i32.const:10001 table.grow:2 table.size:2", "", "i32:-1 i32:0", 4, 0},
	})
}

// P15.3: table.fill, table.copy, table.init and elem.drop.
func TestTableRanges(t *testing.T) {
	trap := func(body string) byHand { return byHand{"->", body, "", "", 4, api.TrapTable} }
	fine := func(body string) byHand { return byHand{"->", body, "", "", 4, 0} }
	fill := func(a, n string) string { return "i32.const:" + a + " ref.func:4 i32.const:" + n + " table.fill:1" }
	get := func(l ...string) (text string) {
		for _, i := range l {
			text += " i32.const:" + i + " table.get:1"
		}
		return text
	}
	checkAll(t, []byHand{
		{"-> func func func func", fill("6", "2") + get("5", "6", "7", "2"), "", "func:5 func:9 func:9 func:9", 12, 0},
		fine(fill("8", "0")),
		trap(fill("9", "0")),
		trap(fill("7", "2")),
		trap(fill("-1", "1")),
		trap(fill("1", "-1")),
		{"-> func func func func func", three("2", "1", "3", "table.copy:1,1") + get("1", "2", "3", "4", "5"), "", "func:10 func:10 func:9 func:8 func:5", 14, 0},
		{"-> func func func", three("0", "1", "2", "table.copy:1,1") + get("0", "1", "2"), "", "func:10 func:9 func:9", 10, 0},
		{"-> i32 extern extern", "ref.null:extern i32.const:2 table.grow:2 " + three("0", "2", "2", "table.copy:2,0") + " i32.const:0 table.get:2 i32.const:1 table.get:2", "", "i32:0 extern:77 extern:0xffffffffffffffff", 11, 0},
		{"-> i32 extern extern", "ref.null:extern i32.const:2 table.grow:2 " + three("2", "0", "2", "table.copy:0,2") + " i32.const:1 table.get:0 i32.const:2 table.get:0", "", "i32:0 extern:null extern:null", 11, 0},
		fine(three("8", "0", "0", "table.copy:1,3")),
		fine(three("0", "8", "0", "table.copy:3,1")),
		trap(three("9", "0", "0", "table.copy:1,3")),
		trap(three("0", "9", "0", "table.copy:3,1")),
		trap(three("0", "0", "1", "table.copy:1,3")),
		trap(three("0", "0", "1", "table.copy:3,1")),
		trap(three("7", "0", "2", "table.copy:1,1")),
		trap(three("0", "0", "-1", "table.copy:1,1")),
		{"-> func func func func", three("3", "0", "3", "table.init:0,1") + get("2", "3", "4", "5"), "", "func:9 func:9 func:null func:12", 12, 0},
		{"-> func func", three("6", "2", "1", "table.init:0,1") + get("6", "5"), "", "func:12 func:5", 8, 0},
		fine(three("8", "3", "0", "table.init:0,1")),
		fine(three("0", "0", "0", "table.init:1,2")),
		trap(three("9", "3", "0", "table.init:0,1")),
		trap(three("8", "4", "0", "table.init:0,1")),
		trap(three("6", "0", "3", "table.init:0,1")),
		trap(three("0", "1", "3", "table.init:0,1")),
		trap(three("0", "0", "1", "table.init:1,2")),
		trap(three("0", "0", "1", "table.init:2,1")),
		trap(three("0", "0", "1", "table.init:3,1")),
		{"->", "elem.drop:0 " + three("0", "0", "0", "table.init:0,1"), "", "", 5, 0},
		{"->", "elem.drop:0 " + three("0", "1", "0", "table.init:0,1"), "", "", 5, api.TrapTable},
		{"->", "elem.drop:0 " + three("0", "0", "1", "table.init:0,1"), "", "", 5, api.TrapTable},
		{"->", "elem.drop:0 elem.drop:0 elem.drop:1 elem.drop:2 elem.drop:3", "", "", 5, 0},
		{"-> extern extern", "elem.drop:0 " + three("0", "0", "2", "table.init:1,0") + " i32.const:0 table.get:0 i32.const:2 table.get:0", "", "extern:null extern:77", 9, 0},
	})
}

// P15.3: what traps changes nothing, and what was changed before remains.
func TestTrapsChangeNothing(t *testing.T) {
	for _, body := range []string{
		"i32.const:65533 i32.const:-1 i32.store:0,0",
		three("65534", "9", "3", "memory.fill"),
		three("65534", "16", "3", "memory.copy"),
		three("65534", "0", "3", "memory.init:0"),
		"i32.const:7 ref.func:3 i32.const:2 table.fill:1",
		three("7", "1", "2", "table.copy:1,1"),
		three("7", "0", "2", "table.init:0,1"),
	} {
		s, inst := built(t, world("->", "i32.const:5 global.set:2 "+body))
		want := cloned(s)
		want.Globals[inst.Globals[2]].V = valuesOf("i32:5")[0]
		got := invoke(s, inst.Funcs[tested], nil, usual)
		if got.e != api.TrapMemory && got.e != api.TrapTable {
			t.Error(body, "is", got)
		}
		if d := difference(s, want); d != "" {
			t.Error(body, "changes", d)
		}
	}
}
