package flat_test

import (
	"slices"
	"strconv"
	"strings"
	"testing"

	"bodkin/api"
	"bodkin/flat"
	"bodkin/ops"
	"bodkin/shape"
	"bodkin/valid"
)

// typeNames are the types as the tests' texts call them.
var typeNames = map[string]int{"i32": api.I32, "i64": api.I64, "f32": api.F32, "f64": api.F64, "v128": api.V128, "func": api.FuncRef, "extern": api.ExternRef}

// valueTypes are all of them, in one order.
var valueTypes = []int{api.I32, api.I64, api.F32, api.F64, api.V128, api.FuncRef, api.ExternRef}

// typesOf reads types.
func typesOf(text string) []int {
	var out []int
	for _, word := range strings.Fields(text) {
		t, ok := typeNames[word]
		if !ok {
			panic("no type: " + word)
		}
		out = append(out, t)
	}
	return out
}

// signature reads a function's type and its locals: parameters, ->, results, and behind a ; the locals.
func signature(text string) (api.FuncType, []int) {
	text, locals, _ := strings.Cut(text, ";")
	params, results, _ := strings.Cut(text, "->")
	return api.FuncType{Params: typesOf(params), Results: typesOf(results)}, typesOf(locals)
}

// words are what is left of a text of instructions.
type words struct{ left []string }

// code reads instructions: their names, each with its operands behind a colon. Those nested in a block follow it, up to else or end.
func code(text string) []api.Instr {
	w := &words{strings.Fields(text)}
	l, last := w.code()
	if last != "" {
		panic("too much " + last + ": " + text)
	}
	return l
}

func (w *words) code() (l []api.Instr, last string) {
	for len(w.left) > 0 {
		word := w.left[0]
		w.left = w.left[1:]
		if word == "else" || word == "end" {
			return l, word
		}
		in := instr(word)
		if ops.Imm(in.Op) == ops.ImmBlock {
			if in.Body, last = w.code(); last == "else" {
				in.Other = true
				in.Else, last = w.code()
			}
			if last != "end" {
				panic("no end of " + word)
			}
		}
		l = append(l, in)
	}
	return l, ""
}

// numbers reads numbers and types.
func numbers(text, between string) (out []int) {
	for _, word := range strings.Split(text, between) {
		n, ok := typeNames[word]
		if !ok {
			var err error
			if n, err = strconv.Atoi(word); err != nil {
				panic(err)
			}
		}
		out = append(out, n)
	}
	return out
}

// instr reads an instruction, without what is nested in it.
func instr(word string) api.Instr {
	name, text, has := strings.Cut(word, ":")
	op, ok := ops.Find(name)
	if !ok {
		panic("no instruction: " + word)
	}
	in := api.Instr{Op: op}
	if !has {
		return in
	}
	l := numbers(text, ",")
	switch ops.Imm(op) {
	case ops.ImmBlock:
		in.A, in.B = 2, l[0]
		if _, is := typeNames[text]; is {
			in.A = 1
		}
	case ops.ImmI32, ops.ImmI64, ops.ImmF32, ops.ImmF64:
		in.N = uint64(l[0])
	case ops.ImmV128:
		in.N, in.H = uint64(l[0]), uint64(l[1])
	case ops.ImmShuffle:
		in.L = l
	case ops.ImmTable:
		in.A, in.L = l[len(l)-1], l[:len(l)-1]
	case ops.ImmMemLane:
		in.A, in.B, in.L = l[0], l[1], l[2:]
	case ops.ImmSelect:
		in.Op, in.L = 0x1c, l
	case ops.ImmNone:
		// Of the two numbers with the name select, Find has told the smaller one.
		in.Op, in.L = op+1, l
	case ops.ImmIndirect, ops.ImmElemTab, ops.ImmTabs, ops.ImmMem:
		in.A, in.B = l[0], l[1]
	default:
		in.A = l[0]
	}
	return in
}

// jumps are the instructions of a translation that no module has.
var jumps = map[string]int{"jump": flat.Jump, "if": flat.If, "unless": flat.Unless, "choose": flat.Choose, "return": flat.Return}

// target reads To/Keep/Drop.
func target(text string) flat.Target {
	l := numbers(text, "/")
	return flat.Target{To: l[0], Keep: l[1], Drop: l[2]}
}

// translation reads a translation: instructions as in code, or their names with targets, each behind a >, and an ! behind what is free. Behind return stands how many are kept.
func translation(text string) (out []flat.Ins) {
	for _, word := range strings.Fields(text) {
		word, free := strings.CutSuffix(word, "!")
		parts := strings.Split(word, ">")
		op, ok := jumps[parts[0]]
		in := flat.Ins{Op: op, Free: free}
		switch {
		case !ok:
			x := instr(word)
			in = flat.Ins{Op: x.Op, A: x.A, B: x.B, N: x.N, H: x.H, L: x.L}
		case op == flat.Return:
			in.T.Keep = numbers(parts[1], ",")[0]
		case op == flat.Choose:
			for _, part := range parts[1:] {
				in.Table = append(in.Table, target(part))
			}
		default:
			in.T = target(parts[1])
		}
		out = append(out, in)
	}
	return out
}

func sameIns(x, y flat.Ins) bool {
	return x.Op == y.Op && x.A == y.A && x.B == y.B && x.N == y.N && x.H == y.H && slices.Equal(x.L, y.L) && x.T == y.T && slices.Equal(x.Table, y.Table) && x.Free == y.Free
}

func sameCode(x, y flat.Code) bool {
	return slices.Equal(x.Type.Params, y.Type.Params) && slices.Equal(x.Type.Results, y.Type.Results) && slices.Equal(x.Locals, y.Locals) && slices.EqualFunc(x.Ins, y.Ins, sameIns)
}

// moreTypes are those of world behind the function's own, from 1 on.
var moreTypes = []string{"-> i32 i32", "i32 ->", "i32 -> i32", "i64 i32 -> f32 f64 i64", "->", "i32 i32 ->", "func extern -> extern", "f64 f64 f64 f64 -> f64"}

// world is a module with that function, the first one of its own, and with something of each kind.
func world(text, body string) api.Module {
	f, locals := signature(text)
	m := api.Module{Types: []api.FuncType{f}, Count: true}
	for _, more := range moreTypes {
		f, _ := signature(more)
		m.Types = append(m.Types, f)
	}
	m.Imports = []api.Import{
		{Kind: api.Global, Global: api.GlobalType{Type: api.I32}},
		{Kind: api.Func, Type: 4},
		{Kind: api.Table, Table: api.TableType{Ref: api.ExternRef}},
		{Kind: api.Func, Type: 1},
	}
	m.Funcs = []api.Code{{Locals: locals, Body: code(body)}}
	for i := 2; i < len(m.Types); i++ {
		m.Funcs = append(m.Funcs, api.Code{Type: i, Body: code("unreachable")})
	}
	for i := range 2 + len(m.Funcs) {
		m.Exports = append(m.Exports, api.Export{Name: strconv.Itoa(i), Index: i})
	}
	m.Tables = []api.TableType{{Ref: api.FuncRef}, {Ref: api.ExternRef}}
	m.Mems = []api.Limits{{Min: 1}}
	for _, typ := range valueTypes {
		m.Globals = append(m.Globals, api.Var{Type: api.GlobalType{Type: typ, Mut: true}, Init: zero(typ)})
	}
	m.Elems = []api.Elem{{Ref: api.FuncRef, Mode: api.Passive}, {Ref: api.ExternRef, Mode: api.Declared}}
	m.Datas = []api.Data{{Mode: api.Passive}, {Mode: api.Passive}}
	return m
}

// zero is an instruction that leaves a value of a type.
func zero(typ int) []api.Instr {
	names := map[int]string{api.I32: "i32.const", api.I64: "i64.const", api.F32: "f32.const", api.F64: "f64.const", api.V128: "v128.const", api.FuncRef: "ref.null:func", api.ExternRef: "ref.null:extern"}
	return code(names[typ])
}

// checkLower holds Lower of a module's first own function against a translation.
func checkLower(t *testing.T, what string, m api.Module, want []flat.Ins) {
	t.Helper()
	got, e := flat.Lower(m, 0)
	if e != api.OK {
		t.Error(what, "is", int(e))
		return
	}
	if slices.EqualFunc(got.Ins, want, sameIns) {
		return
	}
	t.Error(what, "is")
	for i := range max(len(got.Ins), len(want)) {
		mark, x, y := "", "none", "none"
		if i < len(got.Ins) {
			x = show(got.Ins[i])
		}
		if i < len(want) {
			y = show(want[i])
		}
		if x != y {
			mark = "and not " + y
		}
		t.Log(i, x, mark)
	}
}

// show tells an instruction of a translation.
func show(in flat.Ins) string {
	text := "?"
	for name, op := range jumps {
		if op == in.Op {
			text = name
		}
	}
	if ops.Known(in.Op) {
		text = ops.Name(in.Op)
	}
	targets := append([]flat.Target{in.T}, in.Table...)
	for _, x := range append([]int{in.A, in.B, int(in.N), int(in.H)}, in.L...) {
		text += " " + strconv.Itoa(x)
	}
	for _, x := range targets {
		text += " >" + strconv.Itoa(x.To) + "/" + strconv.Itoa(x.Keep) + "/" + strconv.Itoa(x.Drop)
	}
	if in.Free {
		text += " free"
	}
	return text
}

// P14.1: the examples of the chapter, and each row with the edges of what it says.
func TestLower(t *testing.T) {
	for _, c := range []struct{ f, body, want string }{
		{"->", "block i32.const:1 br_if:0 nop end", "i32.const:1 if>3/0/0 nop return>0!"},
		{"-> i32", "i32.const:5 return nop", "i32.const:5 return>1 return>1!"},
		{"->", "", "return>0!"},
		{"i32 i64 -> i64 i32 ; f32", "local.get:1 local.get:0", "local.get:1 local.get:0 return>2!"},
		// block, loop
		{"->", "block end loop end block:5 loop end end", "return>0!"},
		{"->", "block nop loop nop end nop end", "nop nop nop return>0!"},
		{"-> i32", "i32.const:1 block:i32 i32.const:2 i64.const:3 i32.const:4 br:0 end drop", "i32.const:1 i32.const:2 i64.const:3 i32.const:4 jump>5/1/2 drop return>1!"},
		{"->", "i64.const:1 i32.const:2 block:4 br:1 end drop drop drop", "i64.const:1 i32.const:2 jump>6/0/2 drop drop drop return>0!"},
		{"->", "loop br:0 end", "jump>0/0/0 return>0!"},
		{"->", "nop loop nop nop br:0 end", "nop nop nop jump>1/0/0 return>0!"},
		{"->", "i32.const:1 i32.const:2 loop:3 i64.const:3 i32.const:4 br:0 end drop drop", "i32.const:1 i32.const:2 i64.const:3 i32.const:4 jump>2/1/2 drop drop return>0!"},
		{"->", "nop loop br:0 end nop", "nop jump>1/0/0 nop return>0!"},
		{"->", "loop loop block br:2 end br:1 end end", "jump>0/0/0 jump>0/0/0 return>0!"},
		// the heights behind blocks
		{"->", "i64.const:1 i32.const:2 i64.const:3 i32.const:4 block:4 unreachable end br:0", "i64.const:1 i32.const:2 i64.const:3 i32.const:4 unreachable jump>6/0/5 return>0!"},
		{"->", "i64.const:1 i32.const:2 loop:4 unreachable end br:0", "i64.const:1 i32.const:2 unreachable jump>4/0/3 return>0!"},
		{"->", "i64.const:1 i32.const:2 i32.const:3 if:4 unreachable else unreachable end br:0", "i64.const:1 i32.const:2 i32.const:3 unless>5/0/0 unreachable unreachable jump>7/0/3 return>0!"},
		{"->", "i32.const:1 i32.const:2 i32.const:3 if:3 end br:0", "i32.const:1 i32.const:2 i32.const:3 unless>4/0/0 jump>5/0/2 return>0!"},
		{"->", "block:i32 i32.const:1 i32.const:2 br:0 end br:0", "i32.const:1 i32.const:2 jump>3/1/1 jump>4/0/1 return>0!"},
		// if
		{"->", "i32.const:1 if end", "i32.const:1 unless>2/0/0 return>0!"},
		{"->", "i32.const:1 if nop nop end nop", "i32.const:1 unless>4/0/0 nop nop nop return>0!"},
		{"->", "i32.const:1 if else end nop", "i32.const:1 unless>3/0/0 jump>3/0/0! nop return>0!"},
		{"->", "i32.const:1 if nop else end nop", "i32.const:1 unless>4/0/0 nop jump>4/0/0! nop return>0!"},
		{"->", "i32.const:1 if else nop end nop", "i32.const:1 unless>3/0/0 jump>4/0/0! nop nop return>0!"},
		{"-> i32", "i32.const:1 if:i32 i32.const:2 else i32.const:3 nop end", "i32.const:1 unless>4/0/0 i32.const:2 jump>6/0/0! i32.const:3 nop return>1!"},
		{"->", "i32.const:1 if br:0 else nop end nop", "i32.const:1 unless>3/0/0 jump>4/0/0 nop nop return>0!"},
		{"->", "i32.const:1 if return else nop end nop", "i32.const:1 unless>3/0/0 return>0 nop nop return>0!"},
		{"->", "i32.const:1 if unreachable nop else nop end nop", "i32.const:1 unless>3/0/0 unreachable nop nop return>0!"},
		{"->", "i32.const:1 if i32.const:2 br_table:0 nop else nop end nop", "i32.const:1 unless>4/0/0 i32.const:2 choose>5/0/0 nop nop return>0!"},
		{"->", "i32.const:1 if i32.const:2 br_if:0 else nop end nop", "i32.const:1 unless>5/0/0 i32.const:2 if>6/0/0 jump>6/0/0! nop nop return>0!"},
		{"->", "i32.const:1 if block br:1 end else nop end nop", "i32.const:1 unless>4/0/0 jump>5/0/0 jump>5/0/0! nop nop return>0!"},
		{"->", "i32.const:1 if nop else br:0 nop end nop", "i32.const:1 unless>4/0/0 nop jump>5/0/0! jump>5/0/0 nop return>0!"},
		{"->", "i32.const:1 i32.const:2 i32.const:3 if:3 i64.const:4 br:1 else i64.const:5 i32.const:6 br:0 end drop drop", "i32.const:1 i32.const:2 i32.const:3 unless>6/0/0 i64.const:4 jump>11/0/3 i64.const:5 i32.const:6 jump>9/1/2 drop drop return>0!"},
		{"->", "i32.const:1 if i32.const:2 if br:1 else nop end else i32.const:3 if nop end end", "i32.const:1 unless>7/0/0 i32.const:2 unless>5/0/0 jump>10/0/0 nop jump>10/0/0! i32.const:3 unless>10/0/0 nop return>0!"},
		// br_if
		{"->", "i32.const:1 i32.const:2 br_if:0 drop", "i32.const:1 i32.const:2 if>4/0/1 drop return>0!"},
		{"-> i32", "i64.const:0 i32.const:1 i32.const:2 br_if:0 nop drop drop i32.const:3", "i64.const:0 i32.const:1 i32.const:2 if>8/1/1 nop drop drop i32.const:3 return>1!"},
		{"->", "i32.const:0 loop:3 i32.const:1 br_if:0 end drop", "i32.const:0 i32.const:1 if>1/1/0 drop return>0!"},
		{"->", "i32.const:0 i32.const:0 br_if:0 br:0", "i32.const:0 i32.const:0 if>4/0/1 jump>4/0/1 return>0!"},
		// br_table
		{"->", "i32.const:0 br_table:0", "i32.const:0 choose>2/0/0 return>0!"},
		{"->", "i64.const:7 block loop i64.const:8 i32.const:0 br_table:0,1,2,1 end end drop", "i64.const:7 i64.const:8 i32.const:0 choose>1/0/1>4/0/1>5/0/2>4/0/1 drop return>0!"},
		{"->", "i64.const:7 block nop loop i64.const:8 i32.const:0 br_table:1,0,2 end end drop", "i64.const:7 nop i64.const:8 i32.const:0 choose>5/0/1>2/0/1>6/0/2 drop return>0!"},
		{"-> i32", "i64.const:7 block:i32 i64.const:8 i32.const:9 i32.const:0 br_table:1,0,0 end return", "i64.const:7 i64.const:8 i32.const:9 i32.const:0 choose>6/1/2>5/1/1>5/1/1 return>1 return>1!"},
		// return, and what is left out
		{"-> i32", "i64.const:1 i32.const:2 return", "i64.const:1 i32.const:2 return>1 return>1!"},
		{"->", "block i64.const:1 return nop end nop", "i64.const:1 return>0 nop return>0!"},
		{"->", "unreachable block nop br:0 end i32.const:0 if nop else nop end", "unreachable return>0!"},
		{"->", "br:0 nop return br:0", "jump>1/0/0 return>0!"},
		{"->", "loop i32.const:0 br_table:0,1 i32.add drop end nop", "i32.const:0 choose>0/0/0>3/0/0 nop return>0!"},
		// all others
		{"->", "i32.const:1 i32.load:2,77 drop", "i32.const:1 i32.load:2,77 drop return>0!"},
		{"->", "v128.const:123,456 v128.const:7,8 i8x16.shuffle:0,1,2,3,4,5,6,7,8,9,10,11,12,13,14,31 drop", "v128.const:123,456 v128.const:7,8 i8x16.shuffle:0,1,2,3,4,5,6,7,8,9,10,11,12,13,14,31 drop return>0!"},
		{"->", "i32.const:1 v128.const:0,0 v128.load8_lane:0,9,15 drop", "i32.const:1 v128.const:0,0 v128.load8_lane:0,9,15 drop return>0!"},
		{"->", "ref.null:func ref.null:func i32.const:1 select:func drop", "ref.null:func ref.null:func i32.const:1 select:func drop return>0!"},
		{"->", "i32.const:1 i32.const:2 i32.const:3 call_indirect:6,1", "i32.const:1 i32.const:2 i32.const:3 call_indirect:6,1 return>0!"},
		{"->", "i64.const:1 i32.const:2 call:0 br:0", "i64.const:1 i32.const:2 call:0 jump>4/0/3 return>0!"},
		{"->", "call:1 br:0", "call:1 jump>2/0/2 return>0!"},
		{"->", "call:2 nop", "call:2 nop return>0!"},
	} {
		m := world(c.f, c.body)
		if e := valid.Check(m); e != api.OK {
			t.Error(c.body, "is not valid:", int(e))
			continue
		}
		checkLower(t, c.body, m, translation(c.want))
	}
}

// P14.1: the type and the locals are the function's, and functions are counted without the imported ones.
func TestLowerWhich(t *testing.T) {
	m := world("i32 f64 -> i64 ; f32 f32 extern", "i64.const:1")
	m.Funcs[1].Locals = typesOf("v128 func")
	for i, c := range m.Funcs {
		got, e := flat.Lower(m, i)
		want := flat.Code{Type: m.Types[c.Type], Locals: c.Locals, Ins: translation("unreachable return>" + strconv.Itoa(len(m.Types[c.Type].Results)) + "!")}
		if i == 0 {
			want.Ins = translation("i64.const:1 return>1!")
		}
		if e != api.OK || !sameCode(got, want) {
			t.Error("Lower of function", i, "is", got, int(e), "and not", want)
		}
	}
}

// P14.1: errors, in their order, and nothing beside them.
func TestLowerErrors(t *testing.T) {
	good, bad := world("->", "nop"), world("->", "drop")
	other := world("->", "nop")
	other.Funcs[3].Body = code("drop")
	wrong := world("->", "nop")
	wrong.Funcs[0].Body = []api.Instr{{Op: 6}}
	counts := world("->", "nop")
	counts.Count = false
	counts.Funcs[0].Body = code("data.drop:0")
	none := api.Module{Imports: []api.Import{{Kind: api.Func}}, Types: []api.FuncType{{}}}
	end := len(good.Funcs)
	for _, c := range []struct {
		what string
		m    api.Module
		i    int
		want api.Errno
	}{
		{"valid", good, 0, api.OK},
		{"valid", good, end - 1, api.OK},
		{"valid", good, end, api.ErrArg},
		{"valid", good, end + 1, api.ErrArg},
		{"valid", good, -1, api.ErrArg},
		{"valid", good, -1 << 63, api.ErrArg},
		{"valid", good, 1<<63 - 1, api.ErrArg},
		{"not valid", bad, 0, api.ErrInvalid},
		{"not valid", bad, 1, api.ErrInvalid},
		{"not valid", bad, end, api.ErrInvalid},
		{"not valid", bad, -1, api.ErrInvalid},
		{"not valid elsewhere", other, 0, api.ErrInvalid},
		{"not well-formed", wrong, 0, api.ErrArg},
		{"not well-formed", wrong, 1, api.ErrArg},
		{"without Count", counts, 0, api.ErrArg},
		{"without functions", none, 0, api.ErrArg},
		{"empty", api.Module{}, 0, api.ErrArg},
		{"wrong start", api.Module{Start: 1}, 0, api.ErrInvalid},
	} {
		got, e := flat.Lower(c.m, c.i)
		if e != c.want {
			t.Error("Lower of function", c.i, "of a module", c.what, "is", int(e), "and not", int(c.want))
		}
		if e != api.OK && (got.Type.Params != nil || got.Type.Results != nil || got.Locals != nil || got.Ins != nil) {
			t.Error("beside an error there is", got)
		}
	}
}

// P14.1: the numbers of what no module has.
func TestNumbers(t *testing.T) {
	for i, op := range []int{flat.Jump, flat.If, flat.Unless, flat.Choose, flat.Return} {
		if op != 65536+i {
			t.Error("number", i, "is", op)
		}
	}
}

// P14.1: as deep as a module may be, and as wide as it likes.
func TestLowerGreat(t *testing.T) {
	const deep = api.MaxNest - 1
	body, want := code("br:0"), []flat.Ins(nil)
	body[0].A = deep
	for i := range deep {
		body = []api.Instr{{Op: 0x41, N: uint64(i)}, {Op: 0x04, A: 0, Body: body}}
	}
	for i := range deep {
		want = append(want, flat.Ins{Op: 0x41, N: uint64(deep - 1 - i)}, flat.Ins{Op: flat.Unless, T: flat.Target{To: 2*deep + 1}})
	}
	want = append(want, translation("jump>"+strconv.Itoa(2*deep+1)+"/0/0 return>0!")...)
	m := world("->", "")
	m.Funcs[0].Body = body
	checkLower(t, "ifs in one another", m, want)

	const wide = 100000
	m.Funcs[0].Body = []api.Instr{{Op: 0x41}, {Op: 0x0e, L: make([]int, wide)}}
	want = []flat.Ins{{Op: 0x41}, {Op: flat.Choose, Table: slices.Repeat([]flat.Target{{To: 2}}, wide+1)}, {Op: flat.Return, Free: true}}
	checkLower(t, "a wide br_table", m, want)

	m.Funcs[0].Body = append(slices.Repeat([]api.Instr{{Op: 0x41}}, wide), api.Instr{Op: 0x0c})
	got, e := flat.Lower(m, 0)
	if e != api.OK || len(got.Ins) != wide+2 || got.Ins[wide].T != (flat.Target{To: wide + 1, Drop: wide}) {
		t.Error("many constants are", len(got.Ins), got.Ins[wide:], int(e))
	}
}

// full is a module whose function has all lists that may be handed on.
func full() api.Module {
	return world("i32 i64 -> i32 i64 ; f32 f64", `block i32.const:0 br_table:0,0,0 end
		block loop i32.const:0 br_table:0,1,0,1 end end
		ref.null:func ref.null:func i32.const:1 select:func drop
		v128.const:1,2 v128.const:3,4 i8x16.shuffle:0,1,2,3,4,5,6,7,8,9,10,11,12,13,14,15 drop
		i32.const:7 v128.const:5,6 v128.store8_lane:0,0,3
		i32.const:1 i64.const:2`)
}

// lists are all numbers of a translation's lists, with what lies behind their ends.
func lists(c flat.Code) [][]*int {
	var out [][]*int
	add := func(l []int) {
		var numbers []*int
		l = l[:cap(l)]
		for i := range l {
			numbers = append(numbers, &l[i])
		}
		out = append(out, numbers)
	}
	add(c.Type.Params)
	add(c.Type.Results)
	add(c.Locals)
	for i := range c.Ins {
		add(c.Ins[i].L)
		var numbers []*int
		table := c.Ins[i].Table[:cap(c.Ins[i].Table)]
		for j := range table {
			numbers = append(numbers, &table[j].To, &table[j].Keep, &table[j].Drop)
		}
		out = append(out, numbers)
	}
	return out
}

// P14.2: the result shares nothing with the module, with another result, or between its lists.
func TestNewMemory(t *testing.T) {
	m := full()
	before := shape.Copy(m)
	got, e := flat.Lower(m, 0)
	again, f := flat.Lower(m, 0)
	if e != api.OK || f != api.OK || !sameCode(got, again) {
		t.Fatal("Lower is", got, int(e), "and", again, int(f))
	}
	for i, l := range lists(again) {
		for _, n := range l {
			*n = -i
		}
	}
	for i, l := range lists(again) {
		for _, n := range l {
			if *n != -i {
				t.Error("list", i, "shares memory with another one")
			}
		}
	}
	for i := range again.Ins {
		again.Ins[i] = flat.Ins{Op: -1}
	}
	if !shape.Same(m, before) {
		t.Error("the module is not as before")
	}
	if third, _ := flat.Lower(m, 0); !sameCode(got, third) {
		t.Error("a result shares memory with a later one")
	}
	m.Types[0].Params[0], m.Types[0].Results[0], m.Funcs[0].Locals[0] = 1, 2, 3
	for i := range m.Funcs[0].Body {
		for j := range m.Funcs[0].Body[i].L {
			m.Funcs[0].Body[i].L[j] = 9
		}
	}
	if third, _ := flat.Lower(before, 0); !sameCode(got, third) {
		t.Error("the result shares memory with the module")
	}
}

// P14.2: what lies behind the end of a list of the module belongs to others.
func TestBehindTheEnd(t *testing.T) {
	m := full()
	guard := []int{0, 0, -5, -6}
	m.Funcs[0].Body[0].Body[1].L = guard[:2]
	locals := append(m.Funcs[0].Locals, -7)
	m.Funcs[0].Locals = locals[:len(locals)-1]
	for range 2 {
		if _, e := flat.Lower(m, 0); e != api.OK {
			t.Error("Lower is", int(e))
		}
	}
	if guard[2] != -5 || guard[3] != -6 || locals[len(locals)-1] != -7 {
		t.Error("behind the ends there are", guard, locals)
	}
}
