package run

import (
	"slices"

	"bodkin/api"
	"bodkin/flat"
	"bodkin/store"
)

// machine is a store whose functions run, and how far they are.
type machine struct {
	*store.Store
	limits Limits
	steps  int
	frames []frame           // the one that was called last is last
	stack  []api.Value       // of each frame its locals, and above them what its instructions have put there
	codes  map[int]flat.Code // the functions of modules that have been called so far, by their addresses
}

// frame is a function of a module that has begun and not ended.
type frame struct {
	*store.Inst
	code []flat.Ins
	next int // the place of the instruction that is next
	base int // the place of its first local on the stack
}

// run calls a function, whose arguments are all that is on the stack, and goes on until it ends.
func (x *machine) run(f int) api.Errno {
	e := x.call(f)
	for e == api.OK && len(x.frames) > 0 {
		e = x.step()
	}
	return e
}

// frame is the function that has been called last.
func (x *machine) frame() *frame { return &x.frames[len(x.frames)-1] }

// step does the next instruction, if there may be one more.
func (x *machine) step() api.Errno {
	f := x.frame()
	in := &f.code[f.next]
	if !in.Free {
		if x.steps == x.limits.Fuel {
			return api.ErrFuel
		}
		x.steps++
	}
	f.next++
	return x.do(in)
}

// call begins a function whose arguments are on the stack.
func (x *machine) call(addr int) api.Errno {
	f := x.Funcs[addr]
	if f.Host != 0 {
		x.callHost(f)
		return api.OK
	}
	if len(x.frames) == x.limits.Depth {
		return api.ErrDepth
	}
	c, e := x.code(addr)
	if e != api.OK {
		return e
	}
	base := len(x.stack) - len(c.Type.Params)
	x.zeros(c.Locals)
	x.frames = append(x.frames, frame{Inst: x.Insts[f.Inst], code: c.Ins, base: base})
	return api.OK
}

// callHost calls a function of the host, of which nothing is known but its type.
func (x *machine) callHost(f store.Func) {
	args := slices.Clone(x.take(len(f.Type.Params)))
	x.Log = append(x.Log, store.Call{Host: f.Host - 1, Args: args})
	x.zeros(f.Type.Results)
}

// code is the translation of a module's function.
func (x *machine) code(addr int) (flat.Code, api.Errno) {
	if c, ok := x.codes[addr]; ok {
		return c, api.OK
	}
	f := x.Funcs[addr]
	c, e := flat.Lower(alone(x.Insts[f.Inst].Module, f.Code), f.Code)
	if e == api.OK {
		x.codes[addr] = c
	}
	return c, e
}

// alone is a valid module without the bodies of its functions but one. As Lower checks all bodies at each call, they would else be checked again for each function.
func alone(m api.Module, code int) api.Module {
	m.Funcs = slices.Clone(m.Funcs)
	for i := range m.Funcs {
		if i != code {
			m.Funcs[i] = api.Code{Type: m.Funcs[i].Type, Body: []api.Instr{{Op: opUnreachable}}}
		}
	}
	return m
}

// leave ends the function that has been called last, with so many results.
func (x *machine) leave(results int) {
	x.lower(x.frame().base, results)
	x.frames = x.frames[:len(x.frames)-1]
}

// jump goes on at a target.
func (x *machine) jump(t flat.Target) {
	x.lower(len(x.stack)-t.Keep-t.Drop, t.Keep)
	x.frame().next = t.To
}

// lower drops what is on the stack from a height on, but for so many values on top.
func (x *machine) lower(height, keep int) {
	kept := x.take(keep)
	x.stack = append(x.stack[:height], kept...)
}

// put puts values on the stack.
func (x *machine) put(l ...api.Value) { x.stack = append(x.stack, l...) }

// putI32 puts a number of 32 bits on the stack, and -1 as all of them 1.
func (x *machine) putI32(n int) { x.put(api.Value{Type: api.I32, Lo: uint64(uint32(n))}) }

// zeros puts the first values of types on the stack.
func (x *machine) zeros(types []int) {
	for _, t := range types {
		x.put(store.Zero(t))
	}
}

// take takes so many values from the stack. They are there until others are put.
func (x *machine) take(n int) []api.Value {
	l := x.stack[len(x.stack)-n:]
	x.stack = x.stack[:len(x.stack)-n]
	return l
}

// number takes a number from the stack.
func (x *machine) number() uint64 { return x.take(1)[0].Lo }
