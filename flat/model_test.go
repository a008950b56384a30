package flat_test

import (
	"strconv"
	"testing"

	"bodkin/api"
	"bodkin/flat"
	"bodkin/ops"
	"bodkin/shape"
	"bodkin/valid"
)

// size is how many instructions others are translated to, and whether control is transferred among them.
func size(l []api.Instr) (n int, transfers bool) {
	for _, in := range l {
		body, out := size(in.Body)
		other, _ := size(in.Else)
		switch ops.Name(in.Op) {
		case "block", "loop":
			n += body
		case "if":
			n += 1 + body + other
			if in.Other && !out {
				n++
			}
		case "br", "br_table", "return", "unreachable":
			return n + 1, true
		default:
			n++
		}
	}
	return n, false
}

// goal is a label whose position is known.
type goal struct{ to, keep, height int }

// model works a translation out in which all positions are known ahead, since the sizes are.
type model struct {
	setting
	goals []goal // the innermost one last
	out   []flat.Ins
}

// jump is the target of a jump to a label from a height.
func (m *model) jump(n, height int) flat.Target {
	l := m.goals[len(m.goals)-1-n]
	return flat.Target{To: l.to, Keep: l.keep, Drop: height - l.keep - l.height}
}

// code translates instructions with a stack of some height, which have a label.
func (m *model) code(l []api.Instr, height int, label []int, to goal) {
	m.labels, m.goals = append(m.labels, label), append(m.goals, to)
	for _, in := range l {
		takes, leaves, transfers := m.sign(in)
		height -= len(takes)
		m.instr(in, height)
		height += len(leaves)
		if transfers {
			break
		}
	}
	m.labels, m.goals = m.labels[:len(m.labels)-1], m.goals[:len(m.goals)-1]
}

// instr translates an instruction, with a stack of that height without what it takes.
func (m *model) instr(in api.Instr, height int) {
	switch ops.Name(in.Op) {
	case "block", "loop", "if":
		m.block(in, height)
	case "br":
		m.out = append(m.out, flat.Ins{Op: flat.Jump, T: m.jump(in.A, height+len(m.types('@', in)))})
	case "br_if":
		m.out = append(m.out, flat.Ins{Op: flat.If, T: m.jump(in.A, height+len(m.types('@', in)))})
	case "br_table":
		var table []flat.Target
		for _, n := range in.L {
			table = append(table, m.jump(n, height+len(m.types('@', in))))
		}
		m.out = append(m.out, flat.Ins{Op: flat.Choose, Table: append(table, m.jump(in.A, height+len(m.types('@', in))))})
	case "return":
		m.out = append(m.out, flat.Ins{Op: flat.Return, T: flat.Target{Keep: len(m.results)}})
	default:
		m.out = append(m.out, flat.Ins{Op: in.Op, A: in.A, B: in.B, N: in.N, H: in.H, L: in.L})
	}
}

// block translates a block, a loop or an if, above what it takes.
func (m *model) block(in api.Instr, height int) {
	f := m.blockType(in)
	whole, _ := size([]api.Instr{in})
	body, out := size(in.Body)
	begin := len(m.out)
	label, to := f.Results, goal{begin + whole, len(f.Results), height}
	switch ops.Name(in.Op) {
	case "loop":
		label, to = f.Params, goal{begin, len(f.Params), height}
	case "if":
		other := begin + 1 + body
		if in.Other && !out {
			other++
		}
		m.out = append(m.out, flat.Ins{Op: flat.Unless, T: flat.Target{To: other}})
	}
	m.code(in.Body, height+len(f.Params), label, to)
	if in.Other && !out {
		m.out = append(m.out, flat.Ins{Op: flat.Jump, T: flat.Target{To: begin + whole}, Free: true})
	}
	if in.Other {
		m.code(in.Else, height+len(f.Params), label, to)
	}
}

// modelLower is what Lower has to tell of a valid module's own function.
func modelLower(m api.Module, i int) []flat.Ins {
	w := &model{setting: at(m, i)}
	w.labels = nil
	end, _ := size(m.Funcs[i].Body)
	w.code(m.Funcs[i].Body, 0, w.results, goal{to: end, keep: len(w.results)})
	return append(w.out, flat.Ins{Op: flat.Return, T: flat.Target{Keep: len(w.results)}, Free: true})
}

// tell tells instructions in the tests' notation.
func tell(l []api.Instr) string {
	text := ""
	for _, in := range l {
		text += ops.Name(in.Op) + ":" + strconv.Itoa(in.A) + "," + strconv.Itoa(in.B)
		for _, n := range in.L {
			text += "," + strconv.Itoa(n)
		}
		text += " "
		if ops.Imm(in.Op) == ops.ImmBlock {
			text += tell(in.Body)
			if in.Other {
				text += "else " + tell(in.Else)
			}
			text += "end "
		}
	}
	return text
}

// made makes a module, and makes sure that it is valid.
func made(t *testing.T, g *maker) api.Module {
	t.Helper()
	m := g.function(4)
	if e := valid.Check(m); e != api.OK {
		t.Fatal("made what is not valid:", int(e), m.Types[0], m.Funcs[0].Locals, tell(m.Funcs[0].Body))
	}
	return m
}

// P14.1: functions without a pattern against the model.
func TestAgainstModel(t *testing.T) {
	g := &maker{pattern: 1}
	seen := map[int]int{}
	for range 8000 {
		m := made(t, g)
		want := modelLower(m, 0)
		for _, in := range want {
			seen[in.Op]++
		}
		checkLower(t, tell(m.Funcs[0].Body), m, want)
		if t.Failed() {
			return
		}
	}
	for _, op := range known {
		if ops.Imm(op) != ops.ImmBlock && ops.Imm(op) != ops.ImmLabel && ops.Imm(op) != ops.ImmTable && ops.Name(op) != "return" && seen[op] == 0 {
			t.Error("no", ops.Name(op))
		}
	}
	for name, op := range jumps {
		if seen[op] < 1000 {
			t.Error("only", seen[op], name)
		}
	}
}

// targets are all those of a translation.
func targets(l []flat.Ins) []flat.Target {
	var out []flat.Target
	for _, in := range l {
		out = append(append(out, in.T), in.Table...)
	}
	return out
}

// P14.3: no target is outside of the translation, none keeps or drops less than nothing, and the translation is not too long.
func TestWhatFollows(t *testing.T) {
	g := &maker{pattern: 2}
	dropped, kept := 0, 0
	for range 2000 {
		m := made(t, g)
		got, e := flat.Lower(m, 0)
		if e != api.OK {
			t.Fatal("Lower is", int(e), "of", tell(m.Funcs[0].Body))
		}
		if most := 3*shape.Count(m.Funcs[0].Body) + 1; len(got.Ins) > most || len(got.Ins) == 0 {
			t.Error(len(got.Ins), "instructions and not at most", most)
		}
		for _, x := range targets(got.Ins) {
			if x.To < 0 || x.To >= len(got.Ins) || x.Keep < 0 || x.Drop < 0 {
				t.Error("a target is", x, "of", len(got.Ins), "in", tell(m.Funcs[0].Body))
			}
			dropped, kept = dropped+min(1, x.Drop), kept+min(1, x.Keep)
		}
	}
	if dropped < 2000 || kept < 2000 {
		t.Error("only", dropped, "targets drop and", kept, "keep")
	}
}
