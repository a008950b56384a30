package lanes_test

import (
	"math"
	"slices"
	"strconv"
	"strings"
	"testing"

	"bodkin/api"
	"bodkin/lanes"
	"bodkin/ops"
)

// fd is the number that the instructions of vectors begin at.
const fd = 64768

var widths = []int{8, 16, 32, 64}

// others are widths of which there are no lanes.
var others = []int{0, 1, 4, 7, 9, 15, 17, 24, 31, 33, 48, 63, 65, 128, -8, -16, -32, -64, 8 + 1<<32, 64 + 1<<32, math.MaxInt, math.MinInt}

var types = []int{api.I32, api.I64, api.F32, api.F64, api.V128, api.FuncRef, api.ExternRef}

// sequence is numbers without a pattern, the same ones each time.
type sequence uint64

func (s *sequence) next() uint64 {
	*s += 0x9e3779b97f4a7c15
	z := uint64(*s)
	z = (z ^ z>>30) * 0xbf58476d1ce4e5b9
	z = (z ^ z>>27) * 0x94d049bb133111eb
	return z ^ z>>31
}

func (s *sequence) below(n int) int { return int(s.next() % uint64(n)) }

// edges are integers and floats at the bounds of lanes of so many bits.
func edges(width int) []uint64 {
	out := []uint64{0, 1, 2, 3, 5, 15, 16, 17, 44, 100, 200, 0x55, 0xaa}
	for k := 3; k <= width; k++ {
		p := uint64(1) << k
		out = append(out, p-1, p, p+1, -p, -p-1, -p+1)
	}
	if width >= 32 {
		out = append(out, floatEdges(width)...)
	}
	return out
}

// floatEdges are floats of both signs: zeros, infinities, NaNs, small ones, and those around halves and the bounds of integers.
func floatEdges(width int) []uint64 {
	p, inf := 23, uint64(0x7f800000)
	if width == 64 {
		p, inf = 52, 0x7ff0000000000000
	}
	quiet := uint64(1) << (p - 1)
	out := []uint64{0, 1, 1<<p - 1, 1 << p, inf - 1, inf, inf + 1, inf + quiet - 1, inf + quiet, inf + quiet + 5, inf + 2*quiet - 1}
	for _, x := range []float64{0.1, 0.5, 0.75, 1, 1.5, 1.9, 2.5, 3, 3.5, 70000, 1e10, 1e20, 1e38, math.MaxInt32, math.MaxUint32, 1 << 31, 1 << 32} {
		a := bitsOf(width, x)
		out = append(out, a-1, a, a+1)
	}
	for _, a := range out {
		out = append(out, a|1<<(width-1))
	}
	return out
}

// vectors are vectors of edges, of lanes of all widths, and ones without a pattern.
func vectors() []api.Value {
	s := sequence(6)
	out := []api.Value{{Type: api.V128}, {Type: api.V128, Lo: math.MaxUint64, Hi: math.MaxUint64}, {Type: api.V128, Hi: 1 << 63}, {Type: api.V128, Lo: 1}}
	for _, w := range widths {
		all := edges(w)
		for range 60 {
			var l []uint64
			for range 128 / w {
				l = append(l, all[s.below(len(all))])
			}
			out = append(out, vectorOf(w, l))
		}
		out = append(out, vectorOf(w, slices.Repeat([]uint64{1 << (w - 1)}, 128/w)))
	}
	// Places of bytes, some of which there are not.
	for range 20 {
		out = append(out, api.Value{Type: api.V128, Lo: s.next() & 0x1f1f1f1f1f1f1f1f, Hi: s.next() & 0x1f1f1f1f1f1f1f1f})
	}
	for range 40 {
		out = append(out, api.Value{Type: api.V128, Lo: s.next(), Hi: s.next()})
	}
	return out
}

// number is a number of a type, at an edge or without a pattern.
func (s *sequence) number(typ int) api.Value {
	w := 64
	if typ == api.I32 || typ == api.F32 {
		w = 32
	}
	all := edges(w)
	n := all[s.below(len(all))]
	if s.below(3) == 0 {
		n = s.next()
	}
	return api.Value{Type: typ, Lo: n << (64 - w) >> (64 - w)}
}

// disturbed is a value with parts that are ignored.
func disturbed(v api.Value) api.Value {
	v.Null = true
	if v.Type != api.V128 {
		v.Hi = 0xfeedface_a5c3d781
	}
	if v.Type == api.I32 || v.Type == api.F32 {
		v.Lo |= 0xfeedface << 32
	}
	return v
}

// normalized tells whether a value of a number or a vector is normalized.
func normalized(v api.Value) bool {
	switch v.Type {
	case api.I32, api.F32:
		return !v.Null && v.Hi == 0 && v.Lo < 1<<32
	case api.I64, api.F64:
		return !v.Null && v.Hi == 0
	}
	return !v.Null && v.Type == api.V128
}

// done are the instructions that are done here.
func done() []int {
	var out []int
	for _, op := range ops.All() {
		if k := ops.Imm(op); op >= fd && (k == ops.ImmNone || k == ops.ImmLane || k == ops.ImmShuffle) {
			out = append(out, op)
		}
	}
	return out
}

// find is the number of an instruction.
func find(t *testing.T, name string) int {
	t.Helper()
	op, ok := ops.Find(name)
	if !ok {
		t.Fatal("no instruction", name)
	}
	return op
}

// choices are numbers that may stand behind an instruction.
func choices(op int) [][]int {
	s := sequence(op)
	switch ops.Imm(op) {
	case ops.ImmLane:
		var out [][]int
		for i := range ops.Lanes(op) {
			out = append(out, []int{i})
		}
		return out
	case ops.ImmShuffle:
		var out [][]int
		for k := range 32 {
			ordered, same, any := make([]int, 16), make([]int, 16), make([]int, 16)
			for i := range 16 {
				ordered[i], same[i], any[i] = (k+i)%32, k, s.below(32)
			}
			out = append(out, ordered, same, any)
		}
		return out
	}
	return [][]int{nil}
}

// arguments are lists of arguments that an instruction takes.
func arguments(op int, all []api.Value) [][]api.Value {
	s := sequence(op)
	takes, _, _ := ops.Sign(op)
	var out [][]api.Value
	for i := range all {
		var args []api.Value
		for k, typ := range takes {
			switch {
			case typ != api.V128:
				args = append(args, s.number(typ))
			case k == 0:
				args = append(args, all[i])
			default:
				args = append(args, all[s.below(len(all))])
			}
		}
		out = append(out, args)
	}
	return out
}

func hex(n uint64) string { return strconv.FormatUint(n, 16) }

// tell writes values.
func tell(l ...api.Value) string {
	var out []string
	for _, v := range l {
		out = append(out, hex(uint64(v.Type))+":"+hex(v.Hi)+","+hex(v.Lo)+","+strconv.FormatBool(v.Null))
	}
	return strings.Join(out, " ")
}

// check holds Do against what it has to answer, and what was handed in against what it was.
func check(t *testing.T, op int, imm []int, args []api.Value, want api.Value) {
	t.Helper()
	keptImm, keptArgs := slices.Clone(imm), slices.Clone(args)
	got, e := lanes.Do(op, imm, args)
	if got != want || e != api.OK {
		t.Fatal(ops.Name(op), imm, tell(args...), "is", tell(got), int(e), "not", tell(want))
	}
	if !normalized(got) {
		t.Fatal(ops.Name(op), imm, tell(args...), "is", tell(got), "which is not normalized")
	}
	if !slices.Equal(imm, keptImm) || !slices.Equal(args, keptArgs) {
		t.Fatal(ops.Name(op), "changed what was handed in")
	}
}

// refuse holds Do against an error without a result.
func refuse(t *testing.T, op int, imm []int, args []api.Value) {
	t.Helper()
	if got, e := lanes.Do(op, imm, args); got != (api.Value{}) || e != api.ErrArg {
		t.Fatal(op, ops.Name(op), imm, tell(args...), "is", tell(got), int(e), "not ErrArg")
	}
}

// P6.1: lanes of a vector.

func TestSplit(t *testing.T) {
	v := api.Value{Type: api.V128, Lo: 0x0807060504030201, Hi: 0xfffefdfcfbfaf9f8}
	for width, want := range map[int][]uint64{
		8:  {1, 2, 3, 4, 5, 6, 7, 8, 0xf8, 0xf9, 0xfa, 0xfb, 0xfc, 0xfd, 0xfe, 0xff},
		16: {0x201, 0x403, 0x605, 0x807, 0xf9f8, 0xfbfa, 0xfdfc, 0xfffe},
		32: {0x4030201, 0x8070605, 0xfbfaf9f8, 0xfffefdfc},
		64: {0x0807060504030201, 0xfffefdfcfbfaf9f8},
	} {
		// Of what type the value is does not count.
		for _, typ := range append([]int{0, -1, 1000}, types...) {
			for _, null := range []bool{false, true} {
				x := api.Value{Type: typ, Lo: v.Lo, Hi: v.Hi, Null: null}
				if got := lanes.Split(width, x); !slices.Equal(got, want) {
					t.Error(width, tell(x), got)
				}
			}
		}
	}
	if got := lanes.Split(32, api.Value{Lo: 1<<32 + 1, Hi: 3}); !slices.Equal(got, []uint64{1, 1, 3, 0}) {
		t.Error(got)
	}
	for _, width := range others {
		if got := lanes.Split(width, v); len(got) != 0 {
			t.Error(width, got)
		}
	}
}

func TestSplitAnyVector(t *testing.T) {
	for _, v := range vectors() {
		for _, width := range widths {
			got := lanes.Split(width, v)
			if want := lanesOf(width, v); !slices.Equal(got, want) {
				t.Fatal(width, tell(v), got, want)
			}
			got[0]++
			if again := lanes.Split(width, v); again[0] == got[0] {
				t.Fatal(width, tell(v), "lanes are not in new memory")
			}
		}
	}
}

func TestJoin(t *testing.T) {
	for _, c := range []struct {
		width  int
		l      []uint64
		lo, hi uint64
	}{
		{8, []uint64{1, 2, 3, 4, 5, 6, 7, 8, 9, 10, 11, 12, 13, 14, 15, 0x1ff}, 0x0807060504030201, 0xff0f0e0d0c0b0a09},
		{16, []uint64{1, 2, 3, 0xfedc0004, 5, 6, 7, math.MaxUint64}, 0x0004000300020001, 0xffff000700060005},
		{32, []uint64{1, 0x200000002, 3, 0xfeedface_a5c3d781}, 0x0000000200000001, 0xa5c3d78100000003},
		{64, []uint64{math.MaxUint64, 1 << 63}, math.MaxUint64, 1 << 63},
	} {
		kept := slices.Clone(c.l)
		want := api.Value{Type: api.V128, Lo: c.lo, Hi: c.hi}
		if got, e := lanes.Join(c.width, c.l); got != want || e != api.OK {
			t.Error(c.width, c.l, tell(got), int(e))
		}
		if !slices.Equal(c.l, kept) {
			t.Error(c.width, "changed the lanes")
		}
	}
}

func TestJoinCuts(t *testing.T) {
	s := sequence(1)
	for range 200 {
		for _, width := range widths {
			var l []uint64
			for range 128 / width {
				l = append(l, s.next())
			}
			if got, e := lanes.Join(width, l); got != vectorOf(width, l) || e != api.OK {
				t.Fatal(width, l, tell(got), int(e))
			}
		}
	}
}

func TestJoinRefuses(t *testing.T) {
	for n := range 40 {
		l := slices.Repeat([]uint64{7}, n)
		for _, width := range widths {
			got, e := lanes.Join(width, l)
			if fits := n == 128/width; fits != (e == api.OK) || !fits && (e != api.ErrArg || got != api.Value{}) {
				t.Error(width, n, tell(got), int(e))
			}
		}
		for _, width := range others {
			if got, e := lanes.Join(width, l); e != api.ErrArg || got != (api.Value{}) {
				t.Error(width, n, tell(got), int(e))
			}
		}
	}
	for _, width := range append(others, widths...) {
		if got, e := lanes.Join(width, nil); e != api.ErrArg || got != (api.Value{}) {
			t.Error(width, tell(got), int(e))
		}
	}
}

// P6.2: instructions.

func TestDo(t *testing.T) {
	want := models()
	all := vectors()
	for _, op := range done() {
		do := want[ops.Name(op)]
		if do == nil {
			t.Error("no model of", ops.Name(op))
			continue
		}
		_, leaves, _ := ops.Sign(op)
		for _, args := range arguments(op, all) {
			odd := slices.Clone(args)
			for i := range odd {
				odd[i] = disturbed(odd[i])
			}
			for _, imm := range choices(op) {
				result := do(imm, args)
				if result.Type != leaves[0] {
					t.Fatal(ops.Name(op), result.Type)
				}
				check(t, op, imm, args, result)
				check(t, op, imm, odd, result)
			}
		}
	}
}

// The shifts' numbers go far beyond the width.
func TestShifts(t *testing.T) {
	want := models()
	s := sequence(2)
	for _, shape := range []string{"i8x16", "i16x8", "i32x4", "i64x2"} {
		for _, verb := range []string{"shl", "shr_s", "shr_u"} {
			op := find(t, shape+"."+verb)
			for _, k := range []uint64{1 << 31, 1<<32 - 1, 1<<32 - 8, 256, 257, 1000} {
				checkShift(t, op, want, &s, k)
			}
			for k := range uint64(140) {
				checkShift(t, op, want, &s, k)
			}
		}
	}
}

func checkShift(t *testing.T, op int, want map[string]model, s *sequence, k uint64) {
	t.Helper()
	args := []api.Value{{Type: api.V128, Lo: s.next(), Hi: s.next()}, {Type: api.I32, Lo: k}}
	check(t, op, nil, args, want[ops.Name(op)](nil, args))
}

// Each pair of bytes stands in lanes of 8 bits.
func TestAllPairsOfBytes(t *testing.T) {
	want := models()
	for _, op := range done() {
		takes, _, _ := ops.Sign(op)
		if !strings.HasPrefix(ops.Name(op), "i8x16.") || ops.Imm(op) != ops.ImmNone || !slices.Equal(takes, []int{api.V128, api.V128}) {
			continue
		}
		do := want[ops.Name(op)]
		for a := range uint64(256) {
			for b := uint64(0); b < 256; b += 16 {
				var l []uint64
				for i := range uint64(16) {
					l = append(l, b+i)
				}
				args := []api.Value{vectorOf(8, slices.Repeat([]uint64{a}, 16)), vectorOf(8, l)}
				check(t, op, nil, args, do(nil, args))
			}
		}
	}
}

// Results that are written out, so that they do not hang on the model.
func TestDoByHand(t *testing.T) {
	for _, c := range byHand {
		op := find(t, c.name)
		_, leaves, _ := ops.Sign(op)
		check(t, op, c.imm, c.args, api.Value{Type: leaves[0], Lo: c.lo, Hi: c.hi})
	}
}

// Instructions that are not done here: numbers of others, and numbers of none.
func TestDoOtherInstructions(t *testing.T) {
	here := map[int]bool{}
	for _, op := range done() {
		here[op] = true
	}
	if len(here) != 213 {
		t.Error(len(here))
	}
	v, i := api.Value{Type: api.V128}, api.Value{Type: api.I32}
	lists := [][]api.Value{nil, {v}, {v, v}, {v, v, v}, {i}, {i, i}, {i, v}, {v, i}}
	imms := [][]int{nil, {0}, make([]int, 16)}
	refused := func(op int) {
		if here[op] {
			return
		}
		for _, args := range lists {
			for _, imm := range imms {
				refuse(t, op, imm, args)
			}
		}
		takes, _, _ := ops.Sign(op)
		var args []api.Value
		for _, typ := range takes {
			args = append(args, api.Value{Type: typ})
		}
		for _, imm := range imms {
			refuse(t, op, imm, args)
		}
	}
	for op := -300; op < 0x200; op++ {
		refused(op)
	}
	for op := fd - 0x300; op < fd+0x300; op++ {
		refused(op)
	}
	for op := range here {
		for _, base := range []int{-fd, -2 * op, 1 << 16, 1 << 32, math.MinInt} {
			refused(op + base)
		}
	}
	refused(math.MaxInt)
	refused(math.MinInt)
}

func TestDoOtherArguments(t *testing.T) {
	for _, op := range done() {
		imm := choices(op)[0]
		takes, _, _ := ops.Sign(op)
		var args []api.Value
		for _, typ := range takes {
			args = append(args, api.Value{Type: typ})
		}
		if _, e := lanes.Do(op, imm, args); e != api.OK {
			t.Error(ops.Name(op), int(e))
		}
		refuse(t, op, imm, nil)
		refuse(t, op, imm, []api.Value{})
		refuse(t, op, imm, args[1:])
		refuse(t, op, imm, args[:len(args)-1])
		for _, typ := range types {
			refuse(t, op, imm, append(slices.Clone(args), api.Value{Type: typ}))
		}
		for i := range args {
			for _, typ := range append([]int{0, 1, -1, 0x40, 0x7a, 0x80, takes[i] + 256, -takes[i]}, types...) {
				if typ != takes[i] {
					other := slices.Clone(args)
					other[i].Type = typ
					refuse(t, op, imm, other)
				}
			}
		}
	}
}

func TestDoOtherNumbers(t *testing.T) {
	for _, op := range done() {
		takes, _, _ := ops.Sign(op)
		var args []api.Value
		for _, typ := range takes {
			args = append(args, api.Value{Type: typ, Lo: 1})
		}
		for n := range 34 {
			if n != len(choices(op)[0]) {
				refuse(t, op, make([]int, n), args)
			}
		}
		for i := range choices(op)[0] {
			for _, lane := range []int{-1, -16, ops.Lanes(op), ops.Lanes(op) + 1, 255, 256, 1 << 32, math.MaxInt, math.MinInt} {
				imm := slices.Clone(choices(op)[0])
				imm[i] = lane
				refuse(t, op, imm, args)
			}
			imm := slices.Clone(choices(op)[0])
			imm[i] = ops.Lanes(op) - 1
			if _, e := lanes.Do(op, imm, args); e != api.OK {
				t.Error(ops.Name(op), imm, int(e))
			}
		}
	}
}

// P6.3: what follows.

func TestJoinOfSplit(t *testing.T) {
	for _, v := range vectors() {
		for _, width := range widths {
			if got, e := lanes.Join(width, lanes.Split(width, v)); got != v || e != api.OK {
				t.Fatal(width, tell(v), tell(got), int(e))
			}
		}
	}
}

func TestExtractOfReplace(t *testing.T) {
	for _, c := range []struct {
		shape, extract string
		width, typ     int
	}{
		{"i8x16", "extract_lane_u", 8, api.I32},
		{"i16x8", "extract_lane_u", 16, api.I32},
		{"i32x4", "extract_lane", 32, api.I32},
		{"i64x2", "extract_lane", 64, api.I64},
		{"f32x4", "extract_lane", 32, api.F32},
		{"f64x2", "extract_lane", 64, api.F64},
	} {
		replace, extract := find(t, c.shape+".replace_lane"), find(t, c.shape+"."+c.extract)
		s := sequence(3)
		for _, v := range vectors() {
			for i := range 128 / c.width {
				put := api.Value{Type: c.typ, Lo: s.next() >> (64 - c.width)}
				changed, e := lanes.Do(replace, []int{i}, []api.Value{v, put})
				if e != api.OK {
					t.Fatal(c.shape, int(e))
				}
				check(t, extract, []int{i}, []api.Value{changed}, put)
				for k, lane := range lanes.Split(c.width, v) {
					if k != i {
						check(t, extract, []int{k}, []api.Value{changed}, api.Value{Type: c.typ, Lo: lane})
					}
				}
			}
		}
	}
}
