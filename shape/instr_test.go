package shape_test

import (
	"math"
	"reflect"
	"slices"
	"strconv"
	"testing"

	"bodkin/api"
	"bodkin/ops"
	"bodkin/shape"
)

// row is a line of P9.1's table: what the fields may contain. A field without a function is unused.
type row struct {
	a, b func(int) bool
	n, h func(uint64) bool
	l    func([]int) bool
}

func index(n int) bool     { return n >= 0 && n < 4294967296 }
func octet(n int) bool     { return n >= 0 && n < 256 }
func value(n int) bool     { return slices.Contains(valueTypes, n) }
func reference(n int) bool { return slices.Contains(refTypes, n) }
func word(n uint64) bool   { return n>>32 == 0 }
func whatever(uint64) bool { return true }

// each is a list of which every element is so.
func each(is func(int) bool) func([]int) bool {
	return func(l []int) bool {
		return !slices.ContainsFunc(l, func(n int) bool { return !is(n) })
	}
}

// exactly is a list of so many bytes.
func exactly(count int) func([]int) bool {
	return func(l []int) bool { return len(l) == count && each(octet)(l) }
}

// rows is P9.1's table without blocks.
var rows = map[int]row{
	ops.ImmNone:     {},
	ops.ImmZero:     {},
	ops.ImmZeros:    {},
	ops.ImmLabel:    {a: index},
	ops.ImmFunc:     {a: index},
	ops.ImmLocal:    {a: index},
	ops.ImmGlobal:   {a: index},
	ops.ImmTab:      {a: index},
	ops.ImmDataMem:  {a: index},
	ops.ImmData:     {a: index},
	ops.ImmElem:     {a: index},
	ops.ImmTable:    {a: index, l: each(index)},
	ops.ImmIndirect: {a: index, b: index},
	ops.ImmElemTab:  {a: index, b: index},
	ops.ImmTabs:     {a: index, b: index},
	ops.ImmSelect:   {l: each(value)},
	ops.ImmMem:      {a: index, b: index},
	ops.ImmMemLane:  {a: index, b: index, l: exactly(1)},
	ops.ImmI32:      {n: word},
	ops.ImmF32:      {n: word},
	ops.ImmI64:      {n: whatever},
	ops.ImmF64:      {n: whatever},
	ops.ImmV128:     {n: whatever, h: whatever},
	ops.ImmRef:      {a: reference},
	ops.ImmShuffle:  {l: exactly(16)},
	ops.ImmLane:     {a: octet},
}

func fits(is func(int) bool, n int) bool {
	if is == nil {
		return n == 0
	}
	return is(n)
}

func fitsWord(is func(uint64) bool, n uint64) bool {
	if is == nil {
		return n == 0
	}
	return is(n)
}

// modelBlock is P9.1's first line.
func modelBlock(in api.Instr) bool {
	typed := in.A == 0 && in.B == 0 || in.A == 1 && value(in.B) || in.A == 2 && index(in.B)
	forked := in.Op == 4 && in.Other || !in.Other && len(in.Else) == 0
	return typed && forked && in.N == 0 && in.H == 0 && len(in.L) == 0 && modelCode(in.Body) && modelCode(in.Else)
}

// known is all instructions.
var known = ops.All()

// modelInstr tells whether an instruction is well-formed.
func modelInstr(in api.Instr) bool {
	if _, is := slices.BinarySearch(known, in.Op); !is {
		return false
	}
	if in.Op >= 2 && in.Op <= 4 {
		return modelBlock(in)
	}
	r := rows[ops.Imm(in.Op)]
	if in.Other || len(in.Body) > 0 || len(in.Else) > 0 || r.l == nil && len(in.L) > 0 || r.l != nil && !r.l(in.L) {
		return false
	}
	return fits(r.a, in.A) && fits(r.b, in.B) && fitsWord(r.n, in.N) && fitsWord(r.h, in.H)
}

func modelCode(l []api.Instr) bool {
	return !slices.ContainsFunc(l, func(in api.Instr) bool { return !modelInstr(in) })
}

// same is a list of the same number, so many times.
func same(n, times int) []int { return slices.Repeat([]int{n}, times) }

// Values for the fields of an instruction.
var (
	numbers = []int{0, 1, 2, 3, -1, 0x6f, 0x70, 0x7b, 0x7f, 0x80, 255, 256, 1<<32 - 1, 1 << 32, math.MinInt}
	words   = []uint64{0, 1, 1<<32 - 1, 1 << 32, math.MaxUint64}
	lists   = [][]int{nil, {}, {0}, {255}, {256}, {-1}, {0x7f}, {0x7f, 0x6f}, {0x6e, 0x7f}, {1<<32 - 1, 0}, {0, 1 << 32}, same(0, 15), same(255, 16), same(31, 17), append(same(1, 15), 256), append([]int{-1}, same(1, 15)...)}
)

// checkInstr holds May against the model.
func checkInstr(t *testing.T, in api.Instr) {
	t.Helper()
	want := modelInstr(in)
	if got := shape.May(api.Module{Count: true, Funcs: []api.Code{{Body: list(in)}}}); got != want {
		t.Error("May of", show(in), "is", got)
	}
}

func show(in api.Instr) string {
	text := ops.Name(in.Op) + " " + strconv.Itoa(in.Op) + " A " + strconv.Itoa(in.A) + " B " + strconv.Itoa(in.B) + " N " + strconv.FormatUint(in.N, 16) + " H " + strconv.FormatUint(in.H, 16) + " L"
	for _, n := range in.L {
		text += " " + strconv.Itoa(n)
	}
	return text + " body " + strconv.Itoa(len(in.Body)) + " else " + strconv.Itoa(len(in.Else)) + " " + strconv.FormatBool(in.Other)
}

// nestings is an instruction with all combinations of what is nested in it.
func nestings(in api.Instr) []api.Instr {
	out := []api.Instr{}
	for _, body := range [][]api.Instr{nil, {}, {plain()}} {
		for _, other := range [][]api.Instr{nil, {}, {plain()}} {
			for _, is := range []bool{false, true} {
				in.Body, in.Else, in.Other = body, other, is
				out = append(out, in)
			}
		}
	}
	return out
}

// P9.1: every instruction, every combination of two fields, and of what is nested in it.
func TestEveryInstruction(t *testing.T) {
	for _, op := range known {
		for _, a := range numbers {
			for _, b := range numbers {
				checkInstr(t, api.Instr{Op: op, A: a, B: b})
				checkInstr(t, api.Instr{Op: op, A: a, B: b, L: []int{3}})
			}
			for _, l := range lists {
				checkInstr(t, api.Instr{Op: op, A: a, L: l})
			}
		}
		for _, l := range lists {
			checkInstr(t, api.Instr{Op: op, B: 1, L: l})
			checkInstr(t, api.Instr{Op: op, N: 1, L: l})
			checkInstr(t, api.Instr{Op: op, H: 1, L: l})
		}
		for _, n := range words {
			for _, h := range words {
				checkInstr(t, api.Instr{Op: op, N: n, H: h})
				checkInstr(t, api.Instr{Op: op, A: 0x70, N: n, H: h})
			}
		}
		for _, l := range [][]int{nil, {5}, same(5, 16), {0x7f}} {
			for _, in := range nestings(api.Instr{Op: op, L: l}) {
				checkInstr(t, in)
			}
			for _, in := range nestings(api.Instr{Op: op, A: 0x70, L: l}) {
				checkInstr(t, in)
			}
		}
	}
}

// P9.1: one instruction of each kind, every combination of all fields.
func TestEveryKind(t *testing.T) {
	seen := map[int]bool{}
	for _, op := range known {
		kind := ops.Imm(op)
		if seen[kind] && kind != ops.ImmBlock {
			continue
		}
		seen[kind] = true
		for _, a := range []int{0, 1, 2, 0x70, 256, 1 << 32} {
			for _, b := range []int{0, 0x7f, 0x80, -1} {
				for _, n := range words[2:] {
					for _, h := range words[:2] {
						for _, l := range lists {
							for _, in := range nestings(api.Instr{Op: op, A: a, B: b, N: n - math.MaxUint32, H: h, L: l}) {
								checkInstr(t, in)
							}
						}
					}
				}
			}
		}
	}
	if len(seen) != ops.ImmMemLane+1 {
		t.Error("only", len(seen), "kinds")
	}
}

// P9.1: by hand, one instruction of each kind that is well-formed, and what is wrong with others.
func TestInstructionsByHand(t *testing.T) {
	shuffle := []int{0, 1, 2, 3, 4, 5, 6, 7, 31, 30, 29, 28, 255, 254, 32, 16}
	for _, in := range []api.Instr{
		{Op: 0x00},
		{Op: 0x02}, {Op: 0x03, A: 1, B: api.V128}, {Op: 0x04, A: 2, B: 1<<32 - 1}, {Op: 0x04, Other: true}, {Op: 0x04, Body: list(plain()), Other: true, Else: list(plain())},
		{Op: 0x0c, A: 1<<32 - 1}, {Op: 0x0e, A: 5, L: []int{1, 1<<32 - 1, 1}}, {Op: 0x0e}, {Op: 0x10, A: 7}, {Op: 0x11, A: 1, B: 1<<32 - 1},
		{Op: 0x1b}, {Op: 0x1c}, {Op: 0x1c, L: valueTypes}, {Op: 0x20, A: 3}, {Op: 0x24, A: 3}, {Op: 0x25, A: 3},
		{Op: 0x28, A: 1<<32 - 1, B: 1<<32 - 1}, {Op: 0x3f}, {Op: 0x41, N: 1<<32 - 1}, {Op: 0x42, N: math.MaxUint64}, {Op: 0x43, N: 0xffc00000}, {Op: 0x44, N: math.MaxUint64},
		{Op: 0xd0, A: api.FuncRef}, {Op: 0xd0, A: api.ExternRef}, {Op: 0xd2, A: 9}, {Op: 0xfc00 + 8, A: 9}, {Op: 0xfc00 + 9, A: 9}, {Op: 0xfc00 + 10}, {Op: 0xfc00 + 11},
		{Op: 0xfc00 + 12, A: 9, B: 8}, {Op: 0xfc00 + 13, A: 9}, {Op: 0xfc00 + 14, A: 9, B: 8}, {Op: 0xfc00 + 17, A: 9},
		{Op: 0xfd00, A: 4, B: 16}, {Op: 0xfd00 + 12, N: math.MaxUint64, H: math.MaxUint64}, {Op: 0xfd00 + 13, L: shuffle}, {Op: 0xfd00 + 21, A: 255}, {Op: 0xfd00 + 84, A: 9, B: 8, L: []int{255}},
	} {
		checkCode(t, show(in), list(in), true)
		checkCode(t, show(in)+", the last", list(plain(), in), true)
		checkCode(t, show(in)+", nested", list(block(fork(nil, list(plain(), in)), plain())), true)
	}
	for _, in := range []api.Instr{
		{Op: 0x02, A: 3}, {Op: 0x02, A: -1}, {Op: 0x02, B: 1}, {Op: 0x02, B: api.I32}, {Op: 0x02, A: 1}, {Op: 0x02, A: 1, B: 0x6e}, {Op: 0x02, A: 2, B: -1}, {Op: 0x02, A: 2, B: 1 << 32}, {Op: 0x02, N: 1}, {Op: 0x02, H: 1}, {Op: 0x02, L: []int{0}},
		{Op: 0x02, Other: true}, {Op: 0x03, Else: list(plain())}, {Op: 0x03, Other: true, Else: list(plain())}, {Op: 0x04, Else: list(plain())},
		{Op: 0x02, Body: list(api.Instr{Op: 5})}, {Op: 0x04, Other: true, Else: list(plain(), api.Instr{Op: 1, A: 1})},
		{Op: 0x00, A: 1}, {Op: 0x01, Body: list(plain())}, {Op: 0x01, Else: list(plain())}, {Op: 0x01, Other: true}, {Op: 0x0c, A: -1}, {Op: 0x0d, A: 1 << 32}, {Op: 0x0c, B: 1},
		{Op: 0x0e, A: 1 << 32}, {Op: 0x0e, L: []int{0, -1}}, {Op: 0x0e, L: []int{1 << 32, 0}}, {Op: 0x1b, L: []int{api.I32}}, {Op: 0x1c, L: []int{api.I32, 0x7a}}, {Op: 0x1c, A: 1},
		{Op: 0x28, A: -1}, {Op: 0x28, B: 1 << 32}, {Op: 0x28, L: []int{0}}, {Op: 0x3f, A: 1}, {Op: 0x41, N: 1 << 32}, {Op: 0x43, N: math.MaxUint64}, {Op: 0x42, A: 1}, {Op: 0x42, H: 1},
		{Op: 0xd0}, {Op: 0xd0, A: api.I32}, {Op: 0xd0, A: api.FuncRef, B: 1}, {Op: 0xd1, A: api.FuncRef}, {Op: 0xfc00 + 10, A: 1}, {Op: 0xfc00 + 10, B: 1},
		{Op: 0xfd00 + 13}, {Op: 0xfd00 + 13, L: shuffle[1:]}, {Op: 0xfd00 + 13, L: append(slices.Clone(shuffle), 0)}, {Op: 0xfd00 + 13, L: append(slices.Clone(shuffle[1:]), 256)}, {Op: 0xfd00 + 13, L: append(slices.Clone(shuffle[1:]), -1)},
		{Op: 0xfd00 + 21, A: 256}, {Op: 0xfd00 + 21, A: -1}, {Op: 0xfd00 + 21, L: []int{1}}, {Op: 0xfd00 + 84}, {Op: 0xfd00 + 84, L: []int{1, 1}}, {Op: 0xfd00 + 84, L: []int{256}}, {Op: 0xfd00 + 84, L: []int{-1}}, {Op: 0xfd00 + 84, A: 1 << 32, L: []int{1}},
	} {
		checkCode(t, show(in), list(in), false)
		checkCode(t, show(in)+", the last", list(plain(), in), false)
		checkCode(t, show(in)+", nested", list(block(fork(list(plain()), list(plain(), in)), plain())), false)
	}
}

// P9.1: the edges of every number in an instruction.
func TestNumbersOfInstructions(t *testing.T) {
	for _, op := range known {
		base := api.Instr{Op: op}
		switch ops.Imm(op) {
		case ops.ImmBlock:
			base.A = 2
		case ops.ImmRef:
			base.A = api.FuncRef
		case ops.ImmShuffle:
			base.L = same(31, 16)
		case ops.ImmMemLane:
			base.L = []int{3}
		case ops.ImmTable, ops.ImmSelect:
			base.L = []int{api.I32, api.F64, api.V128}
		}
		checkMay(t, show(base), api.Module{Count: true, Funcs: []api.Code{{Body: list(base)}}}, true)
		for _, n := range slices.Concat(indices, noIndices, valueTypes, noValueTypes, bytes, noBytes) {
			in := base
			in.A = n
			checkInstr(t, in)
			in = base
			in.B = n
			checkInstr(t, in)
			in.A = 1
			checkInstr(t, in)
			for i := range base.L {
				in = base
				in.L = slices.Clone(base.L)
				in.L[i] = n
				checkInstr(t, in)
			}
		}
	}
}

// P9.1: numbers that no instruction has.
func TestUnknownInstructions(t *testing.T) {
	for op := range 1 << 17 {
		if _, is := slices.BinarySearch(known, op); is {
			continue
		}
		if shape.May(api.Module{Funcs: []api.Code{{Body: list(plain(), api.Instr{Op: op})}}}) {
			t.Error("May of the instruction", op)
		}
	}
	for _, op := range []int{-1, -64512, 1 << 32, 1<<32 + 1, math.MaxInt, math.MinInt} {
		checkCode(t, strconv.Itoa(op), list(api.Instr{Op: op}), false)
	}
}

// modelNest is P9.2's Nest, in its words.
func modelNest(l []api.Instr) int {
	if len(l) == 0 {
		return 0
	}
	deepest := 0
	for _, in := range l {
		deepest = max(deepest, modelNest(slices.Concat(in.Body, in.Else)))
	}
	return 1 + deepest
}

func modelCount(l []api.Instr) int {
	n := len(l)
	for _, in := range l {
		n += modelCount(in.Body) + modelCount(in.Else)
	}
	return n
}

// sequence is numbers without a pattern, the same ones each time.
type sequence uint64

func (s *sequence) next(n int) int {
	*s += 0x9e3779b97f4a7c15
	z := uint64(*s)
	z = (z ^ z>>30) * 0xbf58476d1ce4e5b9
	z = (z ^ z>>27) * 0x94d049bb133111eb
	return int((z ^ z>>31) % uint64(n))
}

// thicket is instructions nested at most so deep, of any number.
func (s *sequence) thicket(depth int) []api.Instr {
	if depth == 0 {
		return nil
	}
	l := make([]api.Instr, s.next(4))
	for i := range l {
		l[i] = api.Instr{Op: s.next(300), Body: s.thicket(s.next(depth)), Else: s.thicket(s.next(depth)), Other: s.next(2) == 0}
	}
	return l
}

// P9.2: Nest and Count, of instructions that are well-formed and of others.
func TestNestAndCount(t *testing.T) {
	odd := api.Instr{Op: -5, Body: list(plain()), Else: list(block(plain()), plain())}
	for _, c := range []struct {
		l           []api.Instr
		nest, count int
	}{
		{nil, 0, 0},
		{list(), 0, 0},
		{list(plain()), 1, 1},
		{list(plain(), plain(), plain()), 1, 3},
		{list(block()), 1, 1},
		{list(block(plain())), 2, 2},
		{list(block(block(), plain())), 2, 3},
		{list(block(plain()), plain()), 2, 3},
		{list(plain(), block(plain())), 2, 3},
		{list(fork(list(plain()), nil)), 2, 2},
		{list(fork(nil, list(plain()))), 2, 2},
		{list(fork(list(block(plain())), list(plain(), plain()))), 3, 5},
		{list(fork(list(plain()), list(block(block())))), 3, 4},
		{list(block(block(block(plain()))), block(plain())), 4, 6},
		{list(odd), 3, 5},
		{tower(7), 7, 17},
	} {
		if got := shape.Nest(c.l); got != c.nest {
			t.Error("Nest is", got, "not", c.nest)
		}
		if got := shape.Count(c.l); got != c.count {
			t.Error("Count is", got, "not", c.count)
		}
	}
	s := sequence(1)
	for range 2000 {
		l := s.thicket(6)
		if got, want := shape.Nest(l), modelNest(l); got != want {
			t.Error("Nest is", got, "not", want)
		}
		if got, want := shape.Count(l), modelCount(l); got != want {
			t.Error("Count is", got, "not", want)
		}
	}
}

// P9.2: as deep as the document promises, and as many.
func TestNestAndCountOfMany(t *testing.T) {
	if l := tower(1 << 16); shape.Nest(l) != 1<<16 || shape.Count(l) != modelCount(l) {
		t.Error("deep:", shape.Nest(l), shape.Count(l))
	}
	if l := make([]api.Instr, 1<<18); shape.Nest(l) != 1 || shape.Count(l) != 1<<18 {
		t.Error("many:", shape.Nest(l), shape.Count(l))
	}
}

// P9.2: what is handed in is not changed.
func TestNestAndCountChangeNothing(t *testing.T) {
	l, kept := tower(20), tower(20)
	shape.Nest(l)
	shape.Count(l)
	if !reflect.DeepEqual(l, kept) {
		t.Error("changed")
	}
}

// P9.1: instructions without a pattern, nested in one another.
func TestThickets(t *testing.T) {
	s := sequence(2)
	good := 0
	for range 20000 {
		l := s.thicket(3)
		want := modelCode(l)
		if want && len(l) > 0 {
			good++
		}
		checkMay(t, "a thicket", api.Module{Count: true, Funcs: []api.Code{{Body: l}}}, want)
	}
	if good == 0 {
		t.Error("none was well-formed")
	}
}
