package run_test

import (
	"slices"
	"testing"

	"bodkin/api"
	"bodkin/ops"
	"bodkin/run"
	"bodkin/store"
)

// trial is a function of a made module, arguments that fit, and limits.
type trial struct {
	f    int
	args []api.Value
	l    run.Limits
}

// trial makes a trial of the module that was made last.
func (g *maker) trial(s *store.Store, inst *store.Inst) trial {
	x := trial{f: inst.Funcs[one(&g.sequence, []int{tested, tested, tested, 5, 6, 7, 0})]}
	for _, typ := range s.Funcs[x.f].Type.Params {
		x.args = append(x.args, g.argument(typ))
	}
	x.l = run.Limits{Fuel: 20 + g.next(400), Depth: 1 + g.next(8), Pages: g.next(5)}
	return x
}

// argument makes a value of a type that fits in world.
func (g *maker) argument(typ int) api.Value {
	v := api.Value{Type: typ, Lo: one(&g.sequence, numbers)}
	switch typ {
	case api.FuncRef:
		v.Lo = uint64(g.next(14))
	case api.V128:
		v.Hi = uint64(g.next(1 << 62))
	}
	if (typ == api.FuncRef || typ == api.ExternRef) && g.next(3) == 0 {
		return store.Zero(typ)
	}
	return v
}

// run runs the trial's function within limits.
func (x trial) run(s *store.Store, l run.Limits) outcome {
	args := slices.Clone(x.args)
	got := invoke(s, x.f, args, l)
	// What is kept of the arguments would be wrong from now on.
	clear(args)
	return got
}

// tell tells a trial and the module.
func (x trial) tell(t *testing.T, inst *store.Inst) {
	t.Helper()
	t.Log("of", x.f, "with", x.args, "and", x.l)
	for i, c := range inst.Module.Funcs {
		t.Log("function", i+tested, "at", inst.Funcs[i+tested], "of", inst.Module.Types[c.Type], c.Locals, tell(c.Body))
	}
}

// P15.2, P15.3: functions without a pattern against the model, with all that they change, one after another.
func TestAgainstModel(t *testing.T) {
	g := &maker{sequence: 1}
	ends, did := map[api.Errno]int{}, map[int]int{}
	for range 2500 {
		s, inst := built(t, g.module(3))
		other := cloned(s)
		for range 10 {
			x := g.trial(s, inst)
			m, pages := &model{s: other, l: x.l, did: did}, len(s.Mems[1].B)/api.PageSize
			want, got := m.invoke(x.f, x.args), x.run(s, x.l)
			ends[want.e]++
			if d := difference(s, other); d != "" || !got.same(want) {
				x.tell(t, inst)
				t.Fatal("it is", got, "and not", want, "and there is a difference in", d)
			}
			checkSound(t, x, s, got)
			if now := len(s.Mems[1].B) / api.PageSize; now > max(pages, min(3, x.l.Pages)) {
				t.Error("the memory has", now, "pages and had", pages, "within", x.l)
			}
		}
	}
	for _, op := range ops.All() {
		if ops.Imm(op) != ops.ImmBlock && op != 0 && did[op] < 3 {
			t.Error(ops.Name(op), "has been done only", did[op], "times")
		}
	}
	for _, e := range []api.Errno{0, 40, 41, 42, 43, 44, 45, 46, 47, 48, 50, 51} {
		if ends[e] < 5 {
			t.Error("only", ends[e], "ended with", int(e))
		}
	}
}

// checkSound makes sure that what a function leaves fits its results, and that the store is sound.
func checkSound(t *testing.T, x trial, s *store.Store, got outcome) {
	t.Helper()
	fits := func(v api.Value, typ int) bool { return run.Fits(s, v, typ) }
	if got.e == api.OK && !slices.EqualFunc(got.out, s.Funcs[x.f].Type.Results, fits) {
		t.Error("the results", got.out, "do not fit", s.Funcs[x.f].Type.Results)
	}
	for _, g := range s.Globals {
		if !fits(g.V, g.Type.Type) {
			t.Error("the value", g.V, "of a global does not fit", g.Type)
		}
	}
	for _, table := range s.Tables {
		for _, v := range table.L {
			if !fits(v, table.Type.Ref) {
				t.Error("the element", v, "of a table does not fit", table.Type)
			}
		}
		if l := table.Type.L; len(table.L) > api.MaxTable || l.Has && len(table.L) > l.Max {
			t.Error("a table has", len(table.L), "elements")
		}
	}
	if n := len(s.Mems[1].B); n%api.PageSize != 0 || n > 3*api.PageSize {
		t.Error("the memory has", n, "bytes")
	}
}

// P15.4: with more fuel and depth an execution ends in the same way, and with less fuel than its steps with ErrFuel.
func TestMoreAndLess(t *testing.T) {
	g := &maker{sequence: 2}
	ended, out := 0, 0
	for range 1000 {
		s, inst := built(t, g.module(3))
		x := g.trial(s, inst)
		then := cloned(s)
		want := x.run(then, x.l)
		if want.e == api.ErrFuel || want.e == api.ErrDepth {
			out++
			continue
		}
		ended++
		for _, l := range []run.Limits{{Fuel: want.steps, Depth: x.l.Depth}, {Fuel: want.steps + 1, Depth: x.l.Depth + 1}, {Fuel: 1<<63 - 1, Depth: 1<<63 - 1}} {
			l.Pages = x.l.Pages
			now := cloned(s)
			got := x.run(now, l)
			if d := difference(now, then); d != "" || !got.same(want) {
				x.tell(t, inst)
				t.Fatal("within", l, "it is", got, "and not", want, d)
			}
		}
		for _, fuel := range []int{want.steps - 1, want.steps / 2} {
			if fuel < 0 || fuel >= want.steps {
				continue
			}
			got := x.run(cloned(s), run.Limits{Fuel: fuel, Depth: x.l.Depth, Pages: x.l.Pages})
			if !got.same(outcome{nil, fuel, api.ErrFuel}) {
				x.tell(t, inst)
				t.Fatal("with the fuel", fuel, "it is", got, "and not out of fuel, as it needs", want.steps)
			}
		}
	}
	if ended < 500 || out < 50 {
		t.Error("only", ended, "ended and", out, "did not")
	}
}
