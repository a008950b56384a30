package decode_test

import (
	"slices"
	"strings"

	"bodkin/api"
	"bodkin/ops"
	"bodkin/shape"
)

// sequence is numbers without a pattern, the same ones each time. Of none, all numbers are 0.
type sequence uint64

func (s *sequence) word() uint64 {
	if s == nil {
		return 0
	}
	*s += 0x9e3779b97f4a7c15
	z := uint64(*s)
	z = (z ^ z>>30) * 0xbf58476d1ce4e5b9
	z = (z ^ z>>27) * 0x94d049bb133111eb
	return z ^ z>>31
}

func (s *sequence) next(n int) int { return int(s.word() % uint64(n)) }

// wide is a number of at most so many bits; small ones are as frequent as great ones.
func (s *sequence) wide(bits int) uint64 { return s.word() >> (64 - bits) >> s.next(bits) }

func (s *sequence) index() int { return int(s.wide(32)) }

// pick is one of some numbers.
func (s *sequence) pick(l []int) int { return l[s.next(len(l))] }

// picks is some of some numbers.
func (s *sequence) picks(l []int, most int) []int {
	out := make([]int, s.next(most+1))
	for i := range out {
		out[i] = s.pick(l)
	}
	return out
}

// bytes is so many bytes.
func (s *sequence) bytes(count int) []int {
	out := make([]int, count)
	for i := range out {
		out[i] = s.next(256)
	}
	return out
}

// operands is P10.1's table, a letter for each part: a, b: the index A, B; c: the byte A; R: the type of references A; l: the list of the indices L; t: the list of the types L; o: the one byte of L; s: its 16 bytes; i, I: N as a signed number of 32 or 64 bits; 4, 8: the bytes of N; h: those of H; 0: a byte; B: a block.
var operands = map[int]string{
	ops.ImmNone:     "",
	ops.ImmBlock:    "B",
	ops.ImmLabel:    "a",
	ops.ImmFunc:     "a",
	ops.ImmLocal:    "a",
	ops.ImmGlobal:   "a",
	ops.ImmTab:      "a",
	ops.ImmData:     "a",
	ops.ImmElem:     "a",
	ops.ImmTable:    "la",
	ops.ImmIndirect: "ab",
	ops.ImmElemTab:  "ab",
	ops.ImmTabs:     "ab",
	ops.ImmMem:      "ab",
	ops.ImmMemLane:  "abo",
	ops.ImmSelect:   "t",
	ops.ImmZero:     "0",
	ops.ImmZeros:    "00",
	ops.ImmDataMem:  "a0",
	ops.ImmI32:      "i",
	ops.ImmI64:      "I",
	ops.ImmF32:      "4",
	ops.ImmF64:      "8",
	ops.ImmV128:     "8h",
	ops.ImmRef:      "R",
	ops.ImmLane:     "c",
	ops.ImmShuffle:  "s",
}

// instr is an instruction that is well-formed, whatever stands behind its number.
func (s *sequence) instr(op, depth int) api.Instr {
	in := api.Instr{Op: op}
	for _, letter := range operands[ops.Imm(op)] {
		switch letter {
		case 'a':
			in.A = s.index()
		case 'b':
			in.B = s.index()
		case 'c':
			in.A = s.next(256)
		case 'R':
			in.A = s.pick(refTypes)
		case 'l':
			for range s.next(5) {
				in.L = append(in.L, s.index())
			}
		case 't':
			in.L = s.picks(valueTypes, 3)
		case 'o':
			in.L = s.bytes(1)
		case 's':
			in.L = s.bytes(16)
		case 'i', '4':
			in.N = s.wide(32)
		case 'I', '8':
			in.N = s.wide(64)
		case 'h':
			in.H = s.wide(64)
		case 'B':
			in.A = s.next(3)
			in.B = []int{0, s.pick(valueTypes), s.index()}[in.A]
			in.Body = s.code(depth)
			if op == 0x04 && s.next(2) == 0 {
				in.Other, in.Else = true, s.code(depth)
			}
		}
	}
	return in
}

// code is instructions that are well-formed, nested at most so deep.
func (s *sequence) code(depth int) []api.Instr {
	if depth == 0 {
		return nil
	}
	var l []api.Instr
	for range s.next(5) {
		op := s.pick(known)
		if s.next(4) == 0 {
			op = 2 + s.next(3)
		}
		l = append(l, s.instr(op, depth-1))
	}
	return l
}

// module is a module that is well-formed.
func (s *sequence) module() api.Module {
	var m api.Module
	for range s.next(4) {
		m.Types = append(m.Types, api.FuncType{Params: s.picks(valueTypes, 3), Results: s.picks(valueTypes, 3)})
		m.Imports = append(m.Imports, s.imported())
		m.Funcs = append(m.Funcs, api.Code{Type: s.index(), Locals: s.picks(valueTypes[:s.next(7)+1], 9), Body: s.code(3)})
	}
	for range s.next(3) {
		m.Tables = append(m.Tables, api.TableType{Ref: s.pick(refTypes), L: s.limits()})
		m.Mems = append(m.Mems, s.limits())
		m.Globals = append(m.Globals, api.Var{Type: api.GlobalType{Type: s.pick(valueTypes), Mut: s.next(2) == 0}, Init: s.code(2)})
		m.Exports = append(m.Exports, api.Export{Name: s.text(), Kind: s.next(4), Index: s.index()})
	}
	for range s.next(3) {
		m.Elems = append(m.Elems, s.elem())
		d := api.Data{Mode: s.next(2), Bytes: []byte(s.text())}
		if d.Mode == api.Active {
			d.Mem, d.Offset = s.next(2)*s.index(), s.code(2)
		}
		m.Datas = append(m.Datas, d)
	}
	m.Start = s.next(2) * s.index()
	m.Count = s.next(2) == 0
	if !shape.May(m) {
		m.Count = true
	}
	return m
}

func (s *sequence) limits() api.Limits {
	l := api.Limits{Min: s.index(), Has: s.next(2) == 0}
	if l.Has {
		l.Max = s.index()
	}
	return l
}

func (s *sequence) text() string { return strings.Repeat("añ€", s.next(3)) }

func (s *sequence) imported() api.Import {
	i := api.Import{Module: s.text(), Name: s.text(), Kind: s.next(4)}
	switch i.Kind {
	case api.Func:
		i.Type = s.index()
	case api.Table:
		i.Table = api.TableType{Ref: s.pick(refTypes), L: s.limits()}
	case api.Mem:
		i.Mem = s.limits()
	case api.Global:
		i.Global = api.GlobalType{Type: s.pick(valueTypes), Mut: s.next(2) == 0}
	}
	return i
}

func (s *sequence) elem() api.Elem {
	e := api.Elem{Ref: s.pick(refTypes), Mode: s.next(3)}
	if e.Mode == api.Active {
		e.Table, e.Offset = s.next(2)*s.index(), s.code(2)
	}
	for range s.next(4) {
		e.Init = append(e.Init, ref(s.index()))
	}
	if s.next(3) == 0 {
		e.Init = append(e.Init, s.code(2))
	}
	return e
}

// full is a well-formed module that has something in every list; built anew each time.
func full() api.Module {
	choose := api.Instr{Op: 0x0e, A: 1, L: []int{0, 1}}
	return api.Module{
		Types: []api.FuncType{{Params: []int{api.I32, api.F64}, Results: []int{api.I64}}, {}},
		Imports: []api.Import{
			{Module: "m", Name: "f", Kind: api.Func, Type: 1},
			{Module: "m", Name: "t", Kind: api.Table, Table: api.TableType{Ref: api.ExternRef, L: api.Limits{Min: 1, Max: 2, Has: true}}},
			{Module: "", Name: "", Kind: api.Mem, Mem: api.Limits{Min: 1, Max: 3, Has: true}},
			{Module: "é", Name: "€", Kind: api.Global, Global: api.GlobalType{Type: api.V128, Mut: true}},
		},
		Funcs: []api.Code{
			{Type: 1, Locals: []int{api.F32, api.F32, api.V128}, Body: list(number(7), block(choose, number(7)), fork(list(plain()), list(number(7), plain())))},
			{Type: 0, Body: list(api.Instr{Op: 0xfd0c, N: 1, H: 2}, api.Instr{Op: 0x28, A: 2, B: 4}, api.Instr{Op: 0x1c, L: []int{api.F64}}, api.Instr{Op: 0xfc09, A: 1})},
		},
		Tables:  []api.TableType{{Ref: api.FuncRef, L: api.Limits{Min: 1, Max: 5, Has: true}}, {Ref: api.ExternRef, L: api.Limits{Min: 4}}},
		Mems:    []api.Limits{{Min: 1}, {Min: 2, Max: 1, Has: true}},
		Globals: []api.Var{{Type: api.GlobalType{Type: api.I32, Mut: true}, Init: list(number(7))}, {Type: api.GlobalType{Type: api.FuncRef}, Init: null(api.FuncRef)}},
		Exports: []api.Export{{Name: "f", Kind: api.Func, Index: 1}, {Name: "g", Kind: api.Global, Index: 2}},
		Start:   2,
		Elems: []api.Elem{
			{Ref: api.FuncRef, Mode: api.Active, Offset: list(number(7)), Init: [][]api.Instr{ref(1), ref(1)}},
			{Ref: api.FuncRef, Mode: api.Active, Table: 1, Offset: list(number(7)), Init: [][]api.Instr{ref(1), {}, {plain(), plain()}}},
			{Ref: api.ExternRef, Mode: api.Passive, Init: [][]api.Instr{null(api.ExternRef)}},
			{Ref: api.FuncRef, Mode: api.Declared},
		},
		Datas: []api.Data{
			{Mode: api.Active, Mem: 1, Offset: list(number(7), plain()), Bytes: []byte{1, 2, 255}},
			{Mode: api.Passive, Bytes: []byte{0}},
		},
		Count: true,
	}
}

// padded is a number in so many bytes, which may be more than it needs.
func padded(n int64, count int) string {
	out := make([]byte, count)
	for i := range out {
		out[i] = byte(n&127) | 128
		n >>= 7
	}
	out[count-1] &= 127
	return string(out)
}

// needsU is how many bytes a number needs.
func needsU(n int) int {
	count := 1
	for ; n > 127; n /= 128 {
		count++
	}
	return count
}

// needsS is how many bytes a number of either sign needs.
func needsS(n int64) int {
	count := 1
	for ; n < -64 || n > 63; n >>= 7 {
		count++
	}
	return count
}

// writtenU is a number in as few bytes as it needs.
func writtenU(n int) string { return padded(int64(n), needsU(n)) }

// writer writes modules in all ways in which they may be read: what may be written in several ways is chosen by its sequence. Without one, all numbers are as short as they can be.
type writer struct{ *sequence }

// more is at most how many bytes a number has more than it needs.
func (w writer) more(needs, most int) int { return needs + w.next(3)*w.next(most-needs+1)/2 }

// u is a number of 32 bits.
func (w writer) u(n int) string { return padded(int64(n), w.more(needsU(n), 5)) }

// s is a number of either sign, in at most so many bytes.
func (w writer) s(n int64, most int) string { return padded(n, w.more(needsS(n), most)) }

func (w writer) sized(content string) string { return w.u(len(content)) + content }

func oneByte(n int) string { return string([]byte{byte(n)}) }

func someBytes(l []int) string { return strings.Join(mapped(l, oneByte), "") }

// mapped is a text for each element of a list.
func mapped[T any](l []T, one func(T) string) []string {
	var out []string
	for _, x := range l {
		out = append(out, one(x))
	}
	return out
}

// list is how many there are, and all of them.
func (w writer) list(each []string) string { return w.u(len(each)) + strings.Join(each, "") }

func (w writer) types(l []int) string { return w.list(mapped(l, oneByte)) }

// little is the lowest bytes of a number.
func little(n uint64, count int) string {
	text := ""
	for range count {
		text += oneByte(int(n % 256))
		n /= 256
	}
	return text
}

// operand is one letter of the table.
func (w writer) operand(letter rune, in api.Instr) string {
	switch letter {
	case 'a':
		return w.u(in.A)
	case 'b':
		return w.u(in.B)
	case 'c', 'R':
		return oneByte(in.A)
	case 'l':
		return w.list(mapped(in.L, w.u))
	case 't':
		return w.types(in.L)
	case 'o', 's':
		return someBytes(in.L)
	case 'i':
		return w.s(int64(int32(in.N)), 5)
	case 'I':
		return w.s(int64(in.N), 10)
	case '4':
		return little(in.N, 4)
	case '8':
		return little(in.N, 8)
	case 'h':
		return little(in.H, 8)
	case 'B':
		return w.block(in)
	}
	return "\x00"
}

func (w writer) block(in api.Instr) string {
	text := [...]func() string{
		func() string { return "\x40" },
		func() string { return oneByte(in.B) },
		func() string { return w.s(int64(in.B), 5) },
	}[in.A]() + strings.Join(mapped(in.Body, w.instr), "")
	if in.Other {
		text += "\x05" + strings.Join(mapped(in.Else, w.instr), "")
	}
	return text + "\x0b"
}

func (w writer) instr(in api.Instr) string {
	text := oneByte(in.Op)
	if in.Op > 255 {
		text = oneByte(in.Op/256) + w.u(in.Op%256)
	}
	for _, letter := range operands[ops.Imm(in.Op)] {
		text += w.operand(letter, in)
	}
	return text
}

func (w writer) code(l []api.Instr) string { return strings.Join(mapped(l, w.instr), "") + "\x0b" }

func (w writer) limits(l api.Limits) string {
	if l.Has {
		return "\x01" + w.u(l.Min) + w.u(l.Max)
	}
	return "\x00" + w.u(l.Min)
}

func (w writer) table(t api.TableType) string { return oneByte(t.Ref) + w.limits(t.L) }

func (w writer) global(g api.GlobalType) string {
	return oneByte(g.Type) + map[bool]string{true: "\x01", false: "\x00"}[g.Mut]
}

func (w writer) imported(i api.Import) string {
	text := w.sized(i.Module) + w.sized(i.Name) + oneByte(i.Kind)
	return text + [...]func() string{
		func() string { return w.u(i.Type) },
		func() string { return w.table(i.Table) },
		func() string { return w.limits(i.Mem) },
		func() string { return w.global(i.Global) },
	}[i.Kind]()
}

// function is a function; its locals are divided into runs in any way.
func (w writer) function(c api.Code) string {
	var runs []string
	for l := c.Locals; len(l) > 0; {
		longest := 1
		for longest < len(l) && l[longest] == l[0] {
			longest++
		}
		count := max(0, longest-w.next(3))
		runs = append(runs, w.u(count)+oneByte(l[0]))
		l = l[count:]
	}
	return w.sized(w.list(runs) + w.code(c.Body))
}

// elem is a segment of references, with one of the numbers that say the same.
func (w writer) elem(e api.Elem) string {
	numbers := map[int][]int{api.Active: {6}, api.Passive: {5}, api.Declared: {7}}[e.Mode]
	isFuncs := e.Ref == api.FuncRef && !slices.ContainsFunc(e.Init, func(l []api.Instr) bool { return len(l) != 1 || l[0].Op != 0xd2 })
	if isFuncs {
		numbers = append(numbers, numbers[0]-4)
	}
	if e.Mode == api.Active && e.Table == 0 && e.Ref == api.FuncRef {
		numbers = append(numbers, 4)
		if isFuncs {
			numbers = append(numbers, 0)
		}
	}
	number := w.pick(numbers)
	text := w.u(number)
	if number == 2 || number == 6 {
		text += w.u(e.Table)
	}
	if e.Mode == api.Active {
		text += w.code(e.Offset)
	}
	switch {
	case number > 4:
		text += oneByte(e.Ref)
	case number > 0 && number < 4:
		text += "\x00"
	}
	if number < 4 {
		return text + w.list(mapped(e.Init, func(l []api.Instr) string { return w.u(l[0].A) }))
	}
	return text + w.list(mapped(e.Init, w.code))
}

func (w writer) data(d api.Data) string {
	text := w.sized(string(d.Bytes))
	switch {
	case d.Mode == api.Passive:
		return w.u(1) + text
	case d.Mem != 0 || w.next(2) == 1:
		return w.u(2) + w.u(d.Mem) + w.code(d.Offset) + text
	}
	return w.u(0) + w.code(d.Offset) + text
}

// customs is some sections of number 0.
func (w writer) customs() string {
	text := ""
	for range w.next(4) * w.next(2) * w.next(2) {
		text += "\x00" + w.sized(w.sized(w.text())+someBytes(w.bytes(w.next(9))))
	}
	return text
}

// written is a module's bytes, in one of the ways in which they may be written.
func written(m api.Module, s *sequence) string {
	w := writer{s}
	lists := map[int][]string{
		1:  mapped(m.Types, func(f api.FuncType) string { return "\x60" + w.types(f.Params) + w.types(f.Results) }),
		2:  mapped(m.Imports, w.imported),
		3:  mapped(m.Funcs, func(c api.Code) string { return w.u(c.Type) }),
		4:  mapped(m.Tables, w.table),
		5:  mapped(m.Mems, w.limits),
		6:  mapped(m.Globals, func(v api.Var) string { return w.global(v.Type) + w.code(v.Init) }),
		7:  mapped(m.Exports, func(x api.Export) string { return w.sized(x.Name) + oneByte(x.Kind) + w.u(x.Index) }),
		9:  mapped(m.Elems, w.elem),
		10: mapped(m.Funcs, w.function),
		11: mapped(m.Datas, w.data),
	}
	text := header + w.customs()
	for _, number := range []int{1, 2, 3, 4, 5, 6, 7, 8, 9, 12, 10, 11} {
		contents := ""
		switch {
		case number == 8 && m.Start > 0:
			contents = w.u(m.Start - 1)
		case number == 12 && m.Count:
			contents = w.u(len(m.Datas))
		case len(lists[number]) > 0 || number != 8 && number != 12 && w.next(3) == 1:
			contents = w.list(lists[number])
		}
		if contents != "" {
			text += oneByte(number) + w.sized(contents)
		}
		text += w.customs()
	}
	return text
}
