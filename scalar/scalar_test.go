package scalar_test

import (
	"math"
	"slices"
	"strconv"
	"strings"
	"testing"

	"bodkin/api"
	"bodkin/lanes"
	"bodkin/ops"
	"bodkin/scalar"
)

// fd is the number that the instructions of vectors begin at.
const fd = 0xfd00

var types = []int{api.I32, api.I64, api.F32, api.F64, api.V128, api.FuncRef, api.ExternRef}

// sequence is numbers without a pattern, the same ones each time.
type sequence uint64

func (s *sequence) next() uint64 {
	*s += 0x9e3779b97f4a7c15
	z := uint64(*s)
	z = (z ^ z>>30) * 0xbf58476d1ce4e5b9
	z = (z ^ z>>27) * 0x94d049bb133111eb
	return z ^ z>>31
}

// edges are numbers of a type: at its bounds, at those that instructions name, and ones without a pattern.
func edges(typ int) []uint64 {
	var out []uint64
	s := sequence(7)
	switch typ {
	case api.I32, api.I64:
		out = integerEdges()
	case api.F32:
		out = floatEdges(32)
	case api.F64:
		out = floatEdges(64)
	}
	for range 12 {
		out = append(out, s.next())
	}
	for i := range out {
		out[i] = lowest(bitsOfType(typ), out[i])
	}
	slices.Sort(out)
	return slices.Compact(out)
}

func bitsOfType(typ int) int {
	if typ == api.I32 || typ == api.F32 {
		return 32
	}
	return 64
}

func integerEdges() []uint64 {
	out := []uint64{0, 1, 2, 3, 5, 7, 10, 100, 0x180, 0x18000, 624485, 0x180000000}
	for _, k := range []int{4, 5, 6, 7, 8, 15, 16, 24, 25, 31, 32, 33, 53, 54, 63} {
		p := uint64(1) << k
		out = append(out, p-1, p, p+1, -p-1, -p, 1-p)
	}
	return append(out, minus1, minus1-1, minus1-2, minus1-6)
}

// floatEdges are floats of both signs: zeros, infinities, NaNs, small ones, and those around halves and the bounds of integers.
func floatEdges(width int) []uint64 {
	p, inf := 23, uint64(inf32)
	if width == 64 {
		p, inf = 52, inf64
	}
	quiet := uint64(1) << (p - 1)
	out := []uint64{0, 1, 1<<p - 1, 1 << p, inf - 1, inf, inf + 1, inf + quiet, inf + quiet + 5, inf + 2*quiet - 1}
	for _, x := range []float64{0.1, 0.5, 1, 1.5, 1.9, 2.5, 3.5, 9, 70000, 1e20, 1e38, 1 << 31, 1 << 32, 1 << 63, 1 << 64, math.MaxInt32, math.MaxUint32} {
		a := bitsOf(width, x)
		out = append(out, a-1, a, a+1)
	}
	for _, a := range out {
		out = append(out, a|1<<(width-1))
	}
	return out
}

// disturbed is a value with parts that are ignored.
func disturbed(v api.Value) api.Value {
	v.Null = true
	if v.Type != api.V128 {
		v.Hi = 0xfeedface_a5c3d781
	}
	if v.Type == api.I32 || v.Type == api.F32 {
		v.Lo |= 0xfeedface << 32
	}
	return v
}

// isSingle tells whether an instruction is one on single numbers.
func isSingle(op int) bool { return op >= 0x45 && op <= 0xc4 || op >= 0xfc00 && op <= 0xfc07 }

// isVector tells whether an instruction is one on vectors that reads and writes no memory, and no constant.
func isVector(op int) bool {
	k := ops.Imm(op)
	return op >= fd && ops.Known(op) && (k == ops.ImmNone || k == ops.ImmLane || k == ops.ImmShuffle)
}

// singles are the instructions on single numbers.
func singles() []int { return slices.DeleteFunc(ops.All(), func(op int) bool { return !isSingle(op) }) }

// vectors are the instructions on vectors.
func vectors() []int { return slices.DeleteFunc(ops.All(), func(op int) bool { return !isVector(op) }) }

// signature are the types that an instruction takes, and the one that it leaves.
func signature(t *testing.T, op int) ([]int, int) {
	t.Helper()
	takes, leaves, ok := ops.Sign(op)
	if !ok || len(leaves) != 1 {
		t.Fatal(op, takes, leaves, ok)
	}
	return takes, leaves[0]
}

// values are values of types.
func values(types []int, numbers []uint64) []api.Value {
	var out []api.Value
	for i, typ := range types {
		out = append(out, api.Value{Type: typ, Lo: numbers[i]})
	}
	return out
}

func hex(n uint64) string { return strconv.FormatUint(n, 16) }

// tell writes values.
func tell(l ...api.Value) string {
	var out []string
	for _, v := range l {
		out = append(out, hex(uint64(v.Type))+":"+hex(v.Hi)+","+hex(v.Lo)+","+strconv.FormatBool(v.Null))
	}
	return strings.Join(out, " ")
}

// check holds Do against what it has to answer, and what was handed in against what it was.
func check(t *testing.T, op int, imm []int, args []api.Value, want api.Value, err api.Errno) {
	t.Helper()
	keptImm, keptArgs := slices.Clone(imm), slices.Clone(args)
	got, e := scalar.Do(op, imm, args)
	if got != want || e != err {
		t.Fatal(hex(uint64(op)), ops.Name(op), imm, tell(args...), "is", tell(got), int(e), "not", tell(want), int(err))
	}
	if !slices.Equal(imm, keptImm) || !slices.Equal(args, keptArgs) {
		t.Fatal(ops.Name(op), "has changed", keptImm, tell(keptArgs...))
	}
}

// refuse holds Do against ErrArg and no value.
func refuse(t *testing.T, op int, imm []int, args []api.Value) {
	t.Helper()
	check(t, op, imm, args, api.Value{}, api.ErrArg)
}

// P7.1: which instructions there are.

func TestNumeric(t *testing.T) {
	here := 0
	for op := -1 << 17; op < 1<<17; op++ {
		want := isSingle(op) || isVector(op)
		if want {
			here++
		}
		if scalar.Numeric(op) != want {
			t.Error(hex(uint64(op)), ops.Name(op), !want)
		}
	}
	if here != 128+8+213 {
		t.Error(here)
	}
	for _, op := range ops.All() {
		for _, base := range []int{1 << 16, 1 << 20, 1 << 32, math.MinInt, -2 * op} {
			if scalar.Numeric(op + base) {
				t.Error(op, base)
			}
		}
	}
	if scalar.Numeric(math.MaxInt) || scalar.Numeric(math.MinInt) {
		t.Error("numbers of no instruction")
	}
}

func TestNumericByHand(t *testing.T) {
	yes := []int{0x45, 0x6a, 0xa7, 0xc4, 0xfc00, 0xfc07, fd + 13, fd + 14, fd + 15, fd + 21, fd + 34, fd + 35, fd + 83, fd + 94, fd + 110, fd + 153, fd + 155, fd + 255}
	no := []int{-1, 0, 0x1a, 0x1b, 0x28, 0x41, 0x44, 0xc5, 0xd0, 0xd1, 0xff, 0x100, 0xfbff, 0xfc08, 0xfc0f, 0xfcff, fd, fd + 11, fd + 12, fd + 84, fd + 91, fd + 92, fd + 93, fd + 154, fd + 162, fd + 256, 0xfe00}
	for _, op := range yes {
		if !scalar.Numeric(op) {
			t.Error(hex(uint64(op)), "is none")
		}
	}
	for _, op := range no {
		if scalar.Numeric(op) {
			t.Error(hex(uint64(op)), "is one")
		}
	}
}

// P7.2: what the instructions come to.

// Results that are written out, so that they hang on neither the table nor the model.
func TestDoByHand(t *testing.T) {
	all := slices.Concat(comparisonsByHand, integersByHand, floatsByHand, conversionsByHand)
	var done []int
	for _, c := range all {
		if ops.Name(c.op) != c.name {
			t.Fatal(hex(uint64(c.op)), "is", ops.Name(c.op), "not", c.name)
		}
		takes, leaves := signature(t, c.op)
		want := api.Value{Type: leaves, Lo: c.want}
		if c.err != api.OK {
			want = api.Value{}
		}
		check(t, c.op, nil, values(takes, c.args), want, c.err)
		done = append(done, c.op)
	}
	slices.Sort(done)
	if done = slices.Compact(done); !slices.Equal(done, singles()) {
		t.Error("instructions that are not tried:", len(singles())-len(done))
	}
}

// lists are lists of arguments of an instruction: all edges, or all pairs of them.
func lists(takes []int) [][]uint64 {
	var out [][]uint64
	first := edges(takes[0])
	if len(takes) == 1 {
		for _, a := range first {
			out = append(out, []uint64{a})
		}
		return out
	}
	for _, a := range first {
		for _, b := range edges(takes[1]) {
			out = append(out, []uint64{a, b})
		}
	}
	return out
}

// The model's results, with arguments that are normalized and with the same ones disturbed.
func TestDoByModel(t *testing.T) {
	for _, op := range singles() {
		takes, leaves := signature(t, op)
		for _, l := range lists(takes) {
			lo, err, ok := model(ops.Name(op), l)
			if !ok {
				t.Fatal("no model of", ops.Name(op))
			}
			want := api.Value{Type: leaves, Lo: lo}
			if err != api.OK {
				want = api.Value{}
			}
			args := values(takes, l)
			check(t, op, nil, args, want, err)
			for i := range args {
				args[i] = disturbed(args[i])
			}
			check(t, op, []int{}, args, want, err)
		}
	}
}

// Shifts and rotations by all numbers of bits, and by more than there are.
func TestDoShifts(t *testing.T) {
	s := sequence(72)
	for _, op := range singles() {
		_, verb, _ := strings.Cut(ops.Name(op), ".")
		if !slices.Contains([]string{"shl", "shr_s", "shr_u", "rotl", "rotr"}, verb) {
			continue
		}
		takes, leaves := signature(t, op)
		for k := range uint64(200) {
			l := []uint64{lowest(bitsOfType(leaves), s.next()), k}
			lo, _, _ := model(ops.Name(op), l)
			check(t, op, nil, values(takes, l), api.Value{Type: leaves, Lo: lo}, api.OK)
		}
	}
}

// Numbers of other instructions, and of none, whatever the arguments.
func TestDoOtherInstructions(t *testing.T) {
	i, f, v := api.Value{Type: api.I32}, api.Value{Type: api.F32}, api.Value{Type: api.V128}
	all := [][]api.Value{nil, {i}, {i, i}, {f}, {f, f}, {v}, {v, v}, {v, v, v}, {v, i}, {i, v}, {i, i, i}}
	refused := func(op int) {
		if isSingle(op) || isVector(op) {
			return
		}
		takes, _, _ := ops.Sign(op)
		for _, imm := range [][]int{nil, {0}, make([]int, 16)} {
			for _, args := range all {
				refuse(t, op, imm, args)
			}
			refuse(t, op, imm, values(takes, make([]uint64, len(takes))))
		}
	}
	for op := -300; op < 0x200; op++ {
		refused(op)
	}
	for op := 0xfa00; op < 0x10200; op++ {
		refused(op)
	}
	for _, op := range ops.All() {
		for _, base := range []int{1 << 16, 1 << 32, math.MinInt, -2 * op} {
			refused(op + base)
		}
	}
	refused(math.MaxInt)
	refused(math.MinInt)
}

// Arguments of other types, and too few and too many of them.
func TestDoOtherArguments(t *testing.T) {
	for _, op := range append(singles(), vectors()...) {
		takes, leaves := signature(t, op)
		imm := make([]int, ops.Lanes(op)/2) // 16 for a shuffle
		if ops.Imm(op) == ops.ImmLane {
			imm = []int{0}
		}
		args := values(takes, []uint64{1, 1, 1}[:len(takes)])
		if v, e := scalar.Do(op, imm, args); v.Type != leaves || e != api.OK {
			t.Error(ops.Name(op), tell(v), int(e))
		}
		refuse(t, op, imm, nil)
		refuse(t, op, imm, args[1:])
		refuse(t, op, imm, args[:len(args)-1])
		for _, typ := range types {
			refuse(t, op, imm, append(slices.Clone(args), api.Value{Type: typ}))
		}
		for i := range args {
			for _, typ := range append([]int{0, 1, -1, 0x40, 0x7a, 0x80, takes[i] + 256, -takes[i]}, types...) {
				if typ != takes[i] {
					other := slices.Clone(args)
					other[i].Type = typ
					refuse(t, op, imm, other)
				}
			}
		}
	}
}

// Numbers behind an instruction that takes none.
func TestDoOtherNumbers(t *testing.T) {
	for _, op := range singles() {
		takes, _ := signature(t, op)
		args := values(takes, []uint64{1, 0}[:len(takes)]) // a wrong number goes ahead of a trap
		for _, imm := range [][]int{{0}, {1}, {-1}, {0, 0}, make([]int, 16), {math.MaxInt}} {
			refuse(t, op, imm, args)
		}
	}
}

// From fd00 on, Do answers what lanes.Do answers, right or wrong.
func TestDoVectors(t *testing.T) {
	s := sequence(73)
	for op := fd - 4; op < fd+300; op++ {
		takes, _, _ := ops.Sign(op)
		for range 20 {
			var args []api.Value
			for _, typ := range takes {
				args = append(args, api.Value{Type: typ, Lo: s.next(), Hi: s.next(), Null: s.next()%2 == 0})
			}
			var places []int
			for range 16 {
				places = append(places, int(s.next()%33))
			}
			for _, imm := range [][]int{nil, {}, {0}, {1}, {7}, {16}, {-1}, make([]int, 16), places} {
				want, err := lanes.Do(op, imm, args)
				check(t, op, imm, args, want, err)
			}
		}
	}
}

func TestDoVectorsByHand(t *testing.T) {
	a := api.Value{Type: api.V128, Lo: 0xc8c8c8c8c8c8c8c8, Hi: 0xc8c8c8c8c8c8c8c8}
	b := api.Value{Type: api.V128, Lo: 0x6464646464646464, Hi: 0x6464646464646464}
	check(t, fd+110, nil, []api.Value{a, b}, api.Value{Type: api.V128, Lo: 0x2c2c2c2c2c2c2c2c, Hi: 0x2c2c2c2c2c2c2c2c}, api.OK)
	check(t, fd+29, []int{1}, []api.Value{{Type: api.V128, Lo: 3, Hi: 4}}, api.Value{Type: api.I64, Lo: 4}, api.OK)
	refuse(t, fd+29, []int{2}, []api.Value{{Type: api.V128, Lo: 3, Hi: 4}})
	refuse(t, fd+29, nil, []api.Value{{Type: api.V128, Lo: 3, Hi: 4}})
	shuffle := []int{31, 16, 15, 0, 15, 15, 15, 15, 15, 15, 15, 15, 15, 15, 15, 15}
	check(t, fd+13, shuffle, []api.Value{a, b}, api.Value{Type: api.V128, Lo: 0xc8c8c8c8c8c86464, Hi: 0xc8c8c8c8c8c8c8c8}, api.OK)
}

// P7.3: what follows.

// mayTrap tells whether an instruction is an integer's division or remainder, or a trunc to an integer that does not saturate.
func mayTrap(op int) bool {
	return op >= 0x6d && op <= 0x70 || op >= 0x7f && op <= 0x82 || op >= 0xa8 && op <= 0xab || op >= 0xae && op <= 0xb1
}

func TestOnlyDivisionsAndTruncsTrap(t *testing.T) {
	for _, op := range singles() {
		takes, _ := signature(t, op)
		trapped := false
		for _, l := range lists(takes) {
			v, e := scalar.Do(op, nil, values(takes, l))
			if e != api.OK && e != api.TrapDiv && e != api.TrapOverflow && e != api.TrapConvert || e != api.OK && v != (api.Value{}) {
				t.Fatal(ops.Name(op), l, tell(v), int(e))
			}
			trapped = trapped || e != api.OK
		}
		if trapped != mayTrap(op) {
			t.Error(ops.Name(op), trapped)
		}
	}
}

func TestReinterpretTwice(t *testing.T) {
	for _, c := range []struct{ there, back, typ int }{
		{0xbc, 0xbe, api.F32}, {0xbe, 0xbc, api.I32}, {0xbd, 0xbf, api.F64}, {0xbf, 0xbd, api.I64},
	} {
		for _, n := range slices.Concat(edges(api.I64), edges(api.F32), edges(api.F64)) {
			v := api.Value{Type: c.typ, Lo: lowest(bitsOfType(c.typ), n)}
			other, e := scalar.Do(c.there, nil, []api.Value{v})
			if e != api.OK || other.Lo != v.Lo {
				t.Fatal(tell(v), tell(other), int(e))
			}
			check(t, c.back, nil, []api.Value{other}, v, api.OK)
		}
	}
}
