package flat_test

import (
	"slices"
	"testing"

	"bodkin/api"
	"bodkin/flat"
	"bodkin/ops"
)

// machine runs a function whose instructions compute nothing but numbers that hang on all that was done before. So two runs that end alike have done the same.
type machine struct {
	setting
	past  uint64
	stack []uint64
	steps int
	fuel  int
	ended string // why it ended ahead of time
}

// step counts a step, if there may be one more.
func (x *machine) step() bool {
	if x.steps == x.fuel {
		x.ended = "fuel"
		return false
	}
	x.steps++
	return true
}

func (x *machine) pop() uint64 {
	last := x.stack[len(x.stack)-1]
	x.stack = x.stack[:len(x.stack)-1]
	return last
}

// do does an instruction that no others are nested in and that goes on behind it.
func (x *machine) do(in api.Instr) {
	if ops.Name(in.Op) == "unreachable" {
		x.ended = "unreachable"
		return
	}
	takes, leaves, _ := x.sign(in)
	for _, n := range append([]int{in.Op, in.A, in.B, int(in.N), int(in.H)}, in.L...) {
		x.past = mix(x.past + uint64(n))
	}
	for range takes {
		x.past = mix(x.past ^ x.pop())
	}
	for range leaves {
		x.past = mix(x.past)
		x.stack = append(x.stack, x.past)
	}
}

// next is that control goes on behind an instruction.
const next = -1

// code runs instructions, and tells to which label control goes.
func (x *machine) code(l []api.Instr) int {
	for _, in := range l {
		if to := x.instr(in); to != next || x.ended != "" {
			return to
		}
	}
	return next
}

func (x *machine) instr(in api.Instr) int {
	name := ops.Name(in.Op)
	if name == "block" || name == "loop" {
		return x.block(in, in.Body, name == "loop")
	}
	if !x.step() {
		return next
	}
	switch name {
	case "if":
		if x.pop()%2 == 0 {
			return x.block(in, in.Else, false)
		}
		return x.block(in, in.Body, false)
	case "br":
		return in.A
	case "br_if":
		if x.pop()%2 == 0 {
			return next
		}
		return in.A
	case "br_table":
		return append(slices.Clone(in.L), in.A)[x.pop()%uint64(len(in.L)+1)]
	case "return":
		return len(x.labels) - 1
	}
	x.do(in)
	return next
}

// block runs what is nested in a block.
func (x *machine) block(in api.Instr, l []api.Instr, again bool) int {
	f := x.blockType(in)
	height, label := len(x.stack)-len(f.Params), f.Results
	if again {
		label = f.Params
	}
	for {
		x.labels = append(x.labels, label)
		to := x.code(l)
		x.labels = x.labels[:len(x.labels)-1]
		if to != 0 || x.ended != "" {
			return max(next, to-1)
		}
		x.stack = append(x.stack[:height], x.stack[len(x.stack)-len(label):]...)
		if !again {
			return next
		}
	}
}

// nested runs a function as it is in its module, and tells its results.
func (x *machine) nested(body []api.Instr) []uint64 {
	x.code(body)
	if x.ended != "" {
		return nil
	}
	return x.stack[len(x.stack)-len(x.results):]
}

// jump goes where a target says.
func (x *machine) jump(t flat.Target) int {
	kept := slices.Clone(x.stack[len(x.stack)-t.Keep:])
	x.stack = append(x.stack[:len(x.stack)-t.Keep-t.Drop], kept...)
	return t.To
}

// lowered runs a translation, and tells its results.
func (x *machine) lowered(l []flat.Ins) []uint64 {
	for place := 0; x.ended == ""; {
		in := l[place]
		place++
		if !in.Free && !x.step() {
			break
		}
		switch in.Op {
		case flat.Jump:
			place = x.jump(in.T)
		case flat.If:
			if x.pop()%2 != 0 {
				place = x.jump(in.T)
			}
		case flat.Unless:
			if x.pop()%2 == 0 {
				place = x.jump(in.T)
			}
		case flat.Choose:
			place = x.jump(in.Table[x.pop()%uint64(len(in.Table))])
		case flat.Return:
			return x.stack[len(x.stack)-in.T.Keep:]
		default:
			x.do(api.Instr{Op: in.Op, A: in.A, B: in.B, N: in.N, H: in.H, L: in.L})
		}
	}
	return nil
}

// P14.1: a translation does what the function does, step by step. What is not fixed about a drop or a select changes nothing.
func TestMeaning(t *testing.T) {
	g := &maker{pattern: 4}
	ends := map[string]int{}
	for range 6000 {
		m := made(t, g)
		got, e := flat.Lower(m, 0)
		if e != api.OK {
			t.Fatal("Lower is", int(e), "of", tell(m.Funcs[0].Body))
		}
		for past := range uint64(8) {
			fuel := 5 + 20*int(past)
			x := &machine{setting: at(m, 0), past: past, fuel: fuel}
			y := &machine{setting: at(m, 0), past: past, fuel: fuel}
			a, b := x.nested(m.Funcs[0].Body), y.lowered(got.Ins)
			ends[x.ended]++
			if x.ended != y.ended || x.steps != y.steps || x.past != y.past || !slices.Equal(a, b) {
				t.Error("after", x.steps, "steps it ends with", x.ended, a, x.past)
				t.Error("translated, after", y.steps, "steps with", y.ended, b, y.past)
				t.Fatal("of", tell(m.Funcs[0].Body))
			}
		}
	}
	if ends[""] < 5000 || ends["fuel"] < 1000 || ends["unreachable"] < 1000 {
		t.Error("there are only", ends)
	}
}
