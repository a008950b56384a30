package ops_test

import (
	"math"
	"slices"
	"strconv"
	"strings"
	"testing"

	"bodkin/api"
	"bodkin/ops"
)

// The numbers behind the prefixes, as the document states them.
const (
	fc = 64512
	fd = 64768
)

// instruction is a line of the document's table.
type instruction struct {
	op            int
	name          string
	imm           int
	takes, leaves []int
	fixed         bool
}

// kinds are the words of the document's table, in the order in which the document lists the constants.
var kinds = strings.Fields("None Block Label Table Func Indirect Select Local Global Tab Mem Zero I32 I64 F32 F64 Ref DataMem Data Zeros ElemTab Elem Tabs V128 Shuffle Lane MemLane")

// imms are the constants, in the same order.
var imms = []int{
	ops.ImmNone, ops.ImmBlock, ops.ImmLabel, ops.ImmTable, ops.ImmFunc, ops.ImmIndirect, ops.ImmSelect, ops.ImmLocal, ops.ImmGlobal,
	ops.ImmTab, ops.ImmMem, ops.ImmZero, ops.ImmI32, ops.ImmI64, ops.ImmF32, ops.ImmF64, ops.ImmRef, ops.ImmDataMem,
	ops.ImmData, ops.ImmZeros, ops.ImmElemTab, ops.ImmElem, ops.ImmTabs, ops.ImmV128, ops.ImmShuffle, ops.ImmLane, ops.ImmMemLane,
}

var typeNames = map[string]int{
	"i32": api.I32, "i64": api.I64, "f32": api.F32, "f64": api.F64, "v128": api.V128, "funcref": api.FuncRef,
}

// number is the number that stands at the beginning of a line.
func number(t *testing.T, word string) int {
	t.Helper()
	prefix, sub, behind := strings.Cut(word, " ")
	base, digits := 0, 16
	switch prefix {
	case "fc":
		base, digits = fc, 10
	case "fd":
		base, digits = fd, 10
	}
	if !behind {
		base, digits, sub = 0, 16, prefix
	}
	n, err := strconv.ParseInt(sub, digits, 0)
	if err != nil {
		t.Fatal(word, err)
	}
	return base + int(n)
}

// typesOf are the types of a list of the document.
func typesOf(t *testing.T, words string) []int {
	t.Helper()
	var out []int
	if words == "-" {
		return out
	}
	for _, w := range strings.Fields(words) {
		if typeNames[w] == 0 {
			t.Fatal(w)
		}
		out = append(out, typeNames[w])
	}
	return out
}

// table is the document's table, in its order.
func table(t *testing.T) []instruction {
	t.Helper()
	var out []instruction
	for l := range strings.Lines(strings.TrimSpace(documented)) {
		word, rest, _ := strings.Cut(strings.TrimSpace(l), ": ")
		parts := strings.Split(rest, "; ")
		if len(parts) != 3 {
			t.Fatal(l)
		}
		x := instruction{op: number(t, word), name: parts[0], imm: slices.Index(kinds, parts[1])}
		if takes, leaves, ok := strings.Cut(parts[2], " → "); ok {
			x.takes, x.leaves, x.fixed = typesOf(t, takes), typesOf(t, leaves), true
		} else if parts[2] != "?" {
			t.Fatal(l)
		}
		out = append(out, x)
	}
	return out
}

// others are numbers at the edges of the table and far from it, of which none is in it.
func others(known map[int]bool) []int {
	var out []int
	add := func(op int) {
		if !known[op] {
			out = append(out, op)
		}
	}
	for op := -300; op < 70000; op++ {
		add(op)
	}
	for _, base := range []int{0xfb00, 0xfe00, 0xff00, 0xfc0000, 0xfd0000, -fc, -fd, 1 << 16, 1 << 31, 1 << 32, 1<<32 + fd, 1 << 62, math.MinInt, math.MaxInt - 0xffff} {
		for k := range 0x10000 {
			if k < 0x200 || k > 0xfbff {
				add(base + k)
			}
		}
	}
	return out
}

// knownOf are the numbers of the document's table.
func knownOf(rows []instruction) map[int]bool {
	known := map[int]bool{}
	for _, x := range rows {
		known[x.op] = true
	}
	return known
}

func TestKindsAreNumberedInOrder(t *testing.T) {
	if len(kinds) != len(imms) {
		t.Fatal(len(kinds), len(imms))
	}
	for i, imm := range imms {
		if imm != i {
			t.Errorf("Imm%s is %d, not %d", kinds[i], imm, i)
		}
	}
}

// P5.1: each line of the document.
func TestTable(t *testing.T) {
	rows := table(t)
	if len(rows) != 435 {
		t.Fatal(len(rows))
	}
	for _, x := range rows {
		if !ops.Known(x.op) {
			t.Errorf("%s (%#x) is not known", x.name, x.op)
		}
		if name := ops.Name(x.op); name != x.name {
			t.Errorf("%#x: name %q, not %q", x.op, name, x.name)
		}
		if imm := ops.Imm(x.op); imm != x.imm {
			t.Errorf("%s (%#x): imm %d, not %d", x.name, x.op, imm, x.imm)
		}
		takes, leaves, fixed := ops.Sign(x.op)
		if !slices.Equal(takes, x.takes) || !slices.Equal(leaves, x.leaves) || fixed != x.fixed {
			t.Errorf("%s (%#x): %v -> %v, %v, not %v -> %v, %v", x.name, x.op, takes, leaves, fixed, x.takes, x.leaves, x.fixed)
		}
	}
}

// P5.1: some lines as a reader of the document would ask for them, without its table.
func TestSomeLines(t *testing.T) {
	for op, name := range map[int]string{
		0x00: "unreachable", 0x11: "call_indirect", 106: "i32.add", 0xd2: "ref.func",
		fc: "i32.trunc_sat_f32_s", fc + 17: "table.fill", fd: "v128.load", fd + 110: "i8x16.add", fd + 255: "f64x2.convert_low_i32x4_u",
	} {
		if got := ops.Name(op); got != name {
			t.Errorf("%#x: %q, not %q", op, got, name)
		}
		if got, ok := ops.Find(name); got != op || !ok {
			t.Errorf("%q: %#x, %v, not %#x", name, got, ok, op)
		}
	}
	takes, leaves, fixed := ops.Sign(0x37)
	if !slices.Equal(takes, []int{api.I32, api.I64}) || len(leaves) != 0 || !fixed {
		t.Error("i64.store:", takes, leaves, fixed)
	}
	takes, leaves, fixed = ops.Sign(0xd2)
	if len(takes) != 0 || !slices.Equal(leaves, []int{api.FuncRef}) || !fixed {
		t.Error("ref.func:", takes, leaves, fixed)
	}
	// Types that are fixed, and none, are told apart from types that are not fixed.
	for _, op := range []int{0x01, fc + 9, fc + 13} {
		if takes, leaves, fixed := ops.Sign(op); len(takes) != 0 || len(leaves) != 0 || !fixed {
			t.Errorf("%#x: %v -> %v, %v", op, takes, leaves, fixed)
		}
	}
	for _, op := range []int{0x00, 0x10, 0x1a, 0x20, 0xd0, 0xd1, fc + 15, fc + 17} {
		if takes, leaves, fixed := ops.Sign(op); takes != nil || leaves != nil || fixed {
			t.Errorf("%#x: %v -> %v, %v", op, takes, leaves, fixed)
		}
	}
}

// P5.1, P5.2, P5.3: numbers that the table does not contain.
func TestOtherNumbers(t *testing.T) {
	for _, op := range others(knownOf(table(t))) {
		takes, leaves, fixed := ops.Sign(op)
		if ops.Known(op) || ops.Name(op) != "" || ops.Imm(op) != ops.ImmNone || takes != nil || leaves != nil || fixed {
			t.Fatalf("%#x: %v, %q, %d, %v -> %v, %v", op, ops.Known(op), ops.Name(op), ops.Imm(op), takes, leaves, fixed)
		}
		if ops.Align(op) != -1 || ops.Lanes(op) != 0 {
			t.Fatalf("%#x: align %d, lanes %d", op, ops.Align(op), ops.Lanes(op))
		}
	}
}

// P5.1: names are found, and of those that stand twice the first one.
func TestFind(t *testing.T) {
	first := map[string]int{}
	for _, x := range table(t) {
		if op, ok := first[x.name]; !ok || x.op < op {
			first[x.name] = x.op
		}
	}
	if len(first) != 434 {
		t.Error("names:", len(first))
	}
	for name, want := range first {
		if op, ok := ops.Find(name); op != want || !ok {
			t.Errorf("%q: %#x, %v, not %#x", name, op, ok, want)
		}
	}
	if op, ok := ops.Find("select"); op != 0x1b || !ok {
		t.Errorf("select: %#x, %v", op, ok)
	}
	// The smallest number of all is found, not only told.
	if op, ok := ops.Find("unreachable"); op != 0 || !ok {
		t.Errorf("unreachable: %#x, %v", op, ok)
	}
}

// P5.1: names that the table does not contain; some are names with a little more, less, or other letters.
func TestFindOtherNames(t *testing.T) {
	wrong := []string{
		"", " ", ".", "-", "?", "{}", "\x00", "i32", "i32.", ".add", "add", "i32 add", "i32_add", "i32.Add", "I32.ADD", "i32.add\n", "\u00ef32.add",
		"\xff", "end", "else", "then", "i32.abs", "i32.div", "f32.rem_s", "i8x16.mul", "i64x2.lt_u", "i64x2.min_s", "f32x4.rem", "v128.load8", "v128.load128",
		"get_local", "local.gets", "ref.null func", "select t", "call.indirect", "memory.drop", "None", "Select", "fd 14", "00", "6a",
		strings.Repeat("i32.add", 1000),
	}
	known := map[string]bool{}
	for _, x := range table(t) {
		known[x.name] = true
	}
	for name := range known {
		for _, w := range []string{name + " ", " " + name, name + name, name + "_s", name + "\x00", name[1:], name[:len(name)-1], strings.ToUpper(name)} {
			if !known[w] {
				wrong = append(wrong, w)
			}
		}
	}
	for _, name := range wrong {
		if op, ok := ops.Find(name); op != 0 || ok {
			t.Errorf("%q: %#x, %v", name, op, ok)
		}
	}
}

// P5.1: what Sign returns can be written to, and nothing else changes.
func TestSignIsNewMemory(t *testing.T) {
	for _, x := range table(t) {
		takes, leaves, _ := ops.Sign(x.op)
		whole := takes[:cap(takes)]
		for i := range whole {
			whole[i] = -1
		}
		if !slices.Equal(leaves, x.leaves) {
			t.Errorf("%s: its lists share memory", x.name)
		}
		whole = leaves[:cap(leaves)]
		for i := range whole {
			whole[i] = -1
		}
	}
	for _, x := range table(t) {
		if takes, leaves, fixed := ops.Sign(x.op); !slices.Equal(takes, x.takes) || !slices.Equal(leaves, x.leaves) || fixed != x.fixed {
			t.Errorf("%s: %v -> %v, %v after writing to an earlier result", x.name, takes, leaves, fixed)
		}
	}
}

// logOfBits is which power of two bytes so many bits are.
func logOfBits(t *testing.T, bits int) int {
	t.Helper()
	k := slices.Index([]int{8, 16, 32, 64, 128}, bits)
	if k < 0 {
		t.Fatal(bits)
	}
	return k
}

// alignOf is what the document's rule makes of a name.
func alignOf(t *testing.T, name string) int {
	t.Helper()
	typ, rest, _ := strings.Cut(name, ".")
	rest, load := strings.CutPrefix(rest, "load")
	if !load {
		var store bool
		if rest, store = strings.CutPrefix(rest, "store"); !store {
			t.Fatal(name)
		}
	}
	size, _, _ := strings.Cut(rest, "_")
	if size == "" {
		size = typ[1:]
	}
	if strings.Contains(size, "x") {
		return 3
	}
	bits, err := strconv.Atoi(size)
	if err != nil {
		t.Fatal(name, err)
	}
	return logOfBits(t, bits)
}

// P5.2: the rule, for each instruction of the table.
func TestAlign(t *testing.T) {
	count := 0
	for _, x := range table(t) {
		want := -1
		if x.imm == ops.ImmMem || x.imm == ops.ImmMemLane {
			want = alignOf(t, x.name)
			count++
		}
		if got := ops.Align(x.op); got != want {
			t.Errorf("%s (%#x): %d, not %d", x.name, x.op, got, want)
		}
	}
	if count != 45 {
		t.Error("instructions that read or write:", count)
	}
}

// P5.2: names of each form.
func TestSomeAligns(t *testing.T) {
	for name, want := range map[string]int{
		"i32.load": 2, "i64.load": 3, "f32.load": 2, "f64.load": 3, "i32.store": 2, "f64.store": 3,
		"i32.load8_s": 0, "i32.load16_u": 1, "i64.load32_u": 2, "i64.store8": 0, "i32.store16": 1, "i64.store32": 2,
		"v128.load": 4, "v128.store": 4, "v128.load8x8_s": 3, "v128.load16x4_u": 3, "v128.load32x2_s": 3,
		"v128.load8_splat": 0, "v128.load16_splat": 1, "v128.load32_splat": 2, "v128.load64_splat": 3,
		"v128.load32_zero": 2, "v128.load64_zero": 3, "v128.load8_lane": 0, "v128.load64_lane": 3, "v128.store16_lane": 1, "v128.store32_lane": 2,
		"memory.size": -1, "memory.grow": -1, "memory.fill": -1, "memory.init": -1, "memory.copy": -1, "i32.const": -1, "v128.const": -1,
		"i8x16.shuffle": -1, "i8x16.replace_lane": -1, "unreachable": -1, "table.get": -1, "i64.extend32_s": -1, "data.drop": -1,
	} {
		op, ok := ops.Find(name)
		if got := ops.Align(op); got != want || !ok {
			t.Errorf("%s (%#x): %d, not %d", name, op, got, want)
		}
	}
}

// lanesOf is what the document's rule makes of an instruction.
func lanesOf(t *testing.T, x instruction) int {
	t.Helper()
	switch x.imm {
	case ops.ImmShuffle:
		return 32
	case ops.ImmMemLane:
		return 16 >> alignOf(t, x.name)
	case ops.ImmLane:
		shape, _, _ := strings.Cut(x.name, ".")
		_, count, _ := strings.Cut(shape, "x")
		n, err := strconv.Atoi(count)
		if err != nil {
			t.Fatal(x.name, err)
		}
		return n
	}
	return 0
}

// P5.3: the rule, for each instruction of the table.
func TestLanes(t *testing.T) {
	count := 0
	for _, x := range table(t) {
		want := lanesOf(t, x)
		if got := ops.Lanes(x.op); got != want {
			t.Errorf("%s (%#x): %d, not %d", x.name, x.op, got, want)
		}
		if want != 0 {
			count++
		}
	}
	if count != 23 {
		t.Error("instructions with lanes:", count)
	}
}

// P5.3: names of each form.
func TestSomeLanes(t *testing.T) {
	for name, want := range map[string]int{
		"i8x16.extract_lane_s": 16, "i8x16.extract_lane_u": 16, "i8x16.replace_lane": 16, "i16x8.extract_lane_u": 8, "i16x8.replace_lane": 8,
		"i32x4.extract_lane": 4, "i64x2.extract_lane": 2, "i64x2.replace_lane": 2, "f32x4.extract_lane": 4, "f32x4.replace_lane": 4, "f64x2.extract_lane": 2, "f64x2.replace_lane": 2,
		"v128.load8_lane": 16, "v128.load16_lane": 8, "v128.load32_lane": 4, "v128.load64_lane": 2,
		"v128.store8_lane": 16, "v128.store16_lane": 8, "v128.store32_lane": 4, "v128.store64_lane": 2,
		"i8x16.shuffle": 32, "i8x16.swizzle": 0, "i8x16.splat": 0, "i8x16.add": 0, "v128.load8_splat": 0, "v128.load32_zero": 0, "v128.load": 0, "v128.const": 0, "i32.add": 0, "unreachable": 0,
	} {
		op, ok := ops.Find(name)
		if got := ops.Lanes(op); got != want || !ok {
			t.Errorf("%s (%#x): %d, not %d", name, op, got, want)
		}
	}
}

// P5.3: all numbers, increasing.
func TestAll(t *testing.T) {
	var want []int
	for op := range knownOf(table(t)) {
		want = append(want, op)
	}
	slices.Sort(want)
	all := ops.All()
	if !slices.Equal(all, want) {
		t.Error(all)
	}
	for _, op := range all {
		if !ops.Known(op) {
			t.Errorf("%#x is listed, but not known", op)
		}
	}
}

// P5.3: what All returns can be written to, and the next call returns the same as before.
func TestAllIsNewMemory(t *testing.T) {
	before := slices.Clone(ops.All())
	all := ops.All()
	whole := all[:cap(all)]
	for i := range whole {
		whole[i] = -1
	}
	if after := ops.All(); !slices.Equal(after, before) {
		t.Error(after)
	}
}
