package run_test

import (
	"slices"

	"bodkin/api"
	"bodkin/ops"
	"bodkin/run"
	"bodkin/scalar"
	"bodkin/store"
)

// model runs functions as they are nested in their modules, by Go's own stack.
type model struct {
	s            *store.Store
	l            run.Limits
	steps, depth int
	did          map[int]int // how often an instruction has been done
}

// ended is what the model panics with when an execution ends ahead of time.
type ended struct{ e api.Errno }

func (m *model) end(e api.Errno) { panic(ended{e}) }

// invoke calls a function with arguments that fit.
func (m *model) invoke(f int, args []api.Value) (got outcome) {
	defer func() {
		switch x := recover().(type) {
		case nil:
		case ended:
			got = outcome{nil, m.steps, x.e}
		default:
			panic(x)
		}
	}()
	out := m.call(f, args)
	return outcome{out, m.steps, api.OK}
}

// activity is a function that runs.
type activity struct {
	*model
	inst   *store.Inst
	locals []api.Value
	stack  []api.Value
	labels [][]int // the types of each, the innermost one last
}

func (m *model) call(addr int, args []api.Value) []api.Value {
	f := m.s.Funcs[addr]
	results := zeros(f.Type.Results)
	if f.Host > 0 {
		m.s.Log = append(m.s.Log, store.Call{Host: f.Host - 1, Args: slices.Clone(args)})
		return results
	}
	if m.depth == m.l.Depth {
		m.end(api.ErrDepth)
	}
	m.depth++
	inst := m.s.Insts[f.Inst]
	c := inst.Module.Funcs[f.Code]
	a := &activity{model: m, inst: inst, locals: append(slices.Clone(args), zeros(c.Locals)...), labels: [][]int{f.Type.Results}}
	a.code(c.Body)
	m.depth--
	return a.stack[len(a.stack)-len(results):]
}

// zeros are the first values of types.
func zeros(types []int) []api.Value {
	var out []api.Value
	for _, typ := range types {
		v := api.Value{Type: typ}
		if typ == api.FuncRef || typ == api.ExternRef {
			v.Null = true
		}
		out = append(out, v)
	}
	return out
}

func (a *activity) pop() api.Value {
	last := len(a.stack) - 1
	v := a.stack[last]
	a.stack = a.stack[:last:last]
	return v
}

func (a *activity) push(l ...api.Value) { a.stack = append(a.stack, l...) }

// pops takes n values, the first one first.
func (a *activity) pops(n int) []api.Value {
	out := make([]api.Value, n)
	for i := range n {
		out[n-1-i] = a.pop()
	}
	return out
}

func (a *activity) pushI32(n int) { a.push(api.Value{Type: api.I32, Lo: uint64(uint32(int32(n)))}) }

// next is that control goes on behind an instruction.
const next = -1

// code runs instructions, and tells to which label control goes.
func (a *activity) code(l []api.Instr) int {
	for _, in := range l {
		if to := a.instr(in); to != next {
			return to
		}
	}
	return next
}

func (a *activity) instr(in api.Instr) int {
	name := ops.Name(in.Op)
	if name == "block" || name == "loop" {
		return a.block(in, in.Body, name == "loop")
	}
	if a.steps == a.l.Fuel {
		a.end(api.ErrFuel)
	}
	a.steps++
	to := a.do(name, in)
	if a.did != nil {
		a.did[in.Op]++
	}
	return to
}

// do does an instruction other than block and loop.
func (a *activity) do(name string, in api.Instr) int {
	switch name {
	case "if":
		if a.pop().Lo != 0 {
			return a.block(in, in.Body, false)
		}
		return a.block(in, in.Else, false)
	case "br":
		return in.A
	case "br_if":
		if a.pop().Lo != 0 {
			return in.A
		}
	case "br_table":
		if i := a.pop().Lo; i < uint64(len(in.L)) {
			return in.L[i]
		}
		return in.A
	case "return":
		return len(a.labels) - 1
	case "unreachable":
		a.end(api.TrapUnreachable)
	default:
		a.plain(name, in)
	}
	return next
}

// blockType is what a block takes and leaves.
func (a *activity) blockType(in api.Instr) api.FuncType {
	switch in.A {
	case 1:
		return api.FuncType{Results: []int{in.B}}
	case 2:
		return a.inst.Module.Types[in.B]
	}
	return api.FuncType{}
}

// block runs what is nested in a block.
func (a *activity) block(in api.Instr, l []api.Instr, again bool) int {
	f := a.blockType(in)
	height, label := len(a.stack)-len(f.Params), f.Results
	if again {
		label = f.Params
	}
	for {
		a.labels = append(a.labels, label)
		to := a.code(l)
		a.labels = a.labels[:len(a.labels)-1]
		if to != 0 {
			return max(next, to-1)
		}
		kept := a.pops(len(label))
		a.stack = slices.Concat(a.stack[:height], kept)
		if !again {
			return next
		}
	}
}

// plain does an instruction behind which control goes on.
func (a *activity) plain(name string, in api.Instr) {
	switch name {
	case "nop":
	case "call":
		a.callOf(a.inst.Funcs[in.A])
	case "call_indirect":
		a.indirect(in)
	case "drop":
		a.pop()
	case "select":
		l := a.pops(3)
		if l[2].Lo != 0 {
			a.push(l[0])
		} else {
			a.push(l[1])
		}
	case "local.get":
		a.push(a.locals[in.A])
	case "local.set":
		a.locals[in.A] = a.pop()
	case "local.tee":
		v := a.pop()
		a.locals[in.A] = v
		a.push(v)
	case "global.get":
		a.push(a.s.Globals[a.inst.Globals[in.A]].V)
	case "global.set":
		a.s.Globals[a.inst.Globals[in.A]].V = a.pop()
	case "ref.null":
		a.push(api.Value{Type: in.A, Null: true})
	case "ref.is_null":
		a.pushI32(map[bool]int{true: 1}[a.pop().Null])
	case "ref.func":
		a.push(api.Value{Type: api.FuncRef, Lo: uint64(a.inst.Funcs[in.A])})
	case "i32.const", "i64.const", "f32.const", "f64.const", "v128.const":
		a.push(api.Value{Type: constTypes[ops.Imm(in.Op)], Lo: in.N, Hi: in.H})
	default:
		if ops.Align(in.Op) >= 0 {
			a.access(name, in)
		} else if scalar.Numeric(in.Op) {
			a.numeric(in)
		} else {
			a.whole(name, in)
		}
	}
}

func (a *activity) callOf(addr int) {
	args := a.pops(len(a.s.Funcs[addr].Type.Params))
	a.push(a.call(addr, args)...)
}

func (a *activity) indirect(in api.Instr) {
	t := a.s.Tables[a.inst.Tables[in.B]]
	i := a.pop().Lo
	if i >= uint64(len(t.L)) {
		a.end(api.TrapUndefined)
	}
	v := t.L[i]
	if v.Null {
		a.end(api.TrapNull)
	}
	f, want := a.s.Funcs[v.Lo].Type, a.inst.Module.Types[in.A]
	if !slices.Equal(f.Params, want.Params) || !slices.Equal(f.Results, want.Results) {
		a.end(api.TrapType)
	}
	a.callOf(int(v.Lo))
}

func (a *activity) numeric(in api.Instr) {
	takes, _, _ := ops.Sign(in.Op)
	var imm []int
	switch ops.Imm(in.Op) {
	case ops.ImmLane:
		imm = []int{in.A}
	case ops.ImmShuffle:
		imm = in.L
	}
	v, e := scalar.Do(in.Op, imm, a.pops(len(takes)))
	if e != api.OK {
		a.end(e)
	}
	a.push(v)
}
