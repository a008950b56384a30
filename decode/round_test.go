package decode_test

import (
	"slices"
	"strings"
	"testing"

	"bodkin/api"
	"bodkin/decode"
	"bodkin/encode"
	"bodkin/ops"
	"bodkin/shape"
)

// checkRound checks that a module's encoding is decoded to it.
func checkRound(t *testing.T, what string, m api.Module) {
	t.Helper()
	b, e := encode.Module(m)
	if e != api.OK {
		t.Error(what, "can't be encoded:", int(e))
		return
	}
	checkModule(t, what, string(b), m, api.OK)
}

// checkCodeRound checks that instructions' encoding is decoded to them.
func checkCodeRound(t *testing.T, what string, l []api.Instr) {
	t.Helper()
	b, e := encode.Code(l)
	if e != api.OK {
		t.Error(what, "can't be encoded:", int(e))
		return
	}
	checkCode(t, what, string(b), l, api.OK)
}

// edges are numbers around those at which an encoding grows, up to the greatest index.
func edges() []int {
	out := []int{0, 1, 2}
	for bit := 2; bit <= 32; bit++ {
		out = append(out, 1<<bit-1, 1<<bit, 1<<bit+1)
	}
	return slices.DeleteFunc(out, func(n int) bool { return n > 1<<32-1 })
}

// P11.4: instructions, encoded and decoded.
func TestCodeIsReadBack(t *testing.T) {
	s := sequence(5)
	for _, op := range known {
		for range 20 {
			checkCodeRound(t, ops.Name(op), list(s.instr(op, 2)))
		}
		in := s.instr(op, 0)
		for _, n := range edges() {
			for _, letter := range operands[ops.Imm(op)] {
				switch letter {
				case 'a':
					in.A = n
				case 'b':
					in.B = n
				case 'l':
					in.L = []int{n, 0, n}
				case 'i', '4', '8', 'I':
					in.N = uint64(n)
				case 'h':
					in.H = uint64(n)
				case 'B':
					in.A, in.B = 2, n
				}
			}
			checkCodeRound(t, ops.Name(op), list(in))
		}
	}
	for bit := range 64 {
		for _, n := range []uint64{1 << bit, 1<<bit - 1, -(1 << bit), -(1 << bit) - 1} {
			checkCodeRound(t, "i64.const", list(api.Instr{Op: 0x42, N: n}, api.Instr{Op: 0x44, N: n}, api.Instr{Op: 0xfd0c, N: n, H: ^n}))
			checkCodeRound(t, "i32.const", list(api.Instr{Op: 0x41, N: n & (1<<32 - 1)}, api.Instr{Op: 0x43, N: n & (1<<32 - 1)}))
		}
	}
	for range 2000 {
		checkCodeRound(t, "instructions", s.code(5))
	}
	checkCodeRound(t, "nothing", nil)
	only := list(block())
	for range api.MaxNest - 1 {
		only = list(fork(list(plain()), only))
	}
	checkCodeRound(t, "as deep as may be", only)
}

// P11.4: modules, encoded and decoded.
func TestModulesAreReadBack(t *testing.T) {
	checkRound(t, "nothing", api.Module{})
	checkRound(t, "the full module", full())
	s := sequence(6)
	for range 5000 {
		checkRound(t, "a module", s.module())
	}
	for _, n := range edges() {
		l := api.Limits{Min: n, Max: n, Has: true}
		checkRound(t, "edges", api.Module{
			Imports: []api.Import{{Type: n}, {Kind: api.Mem, Mem: l}},
			Funcs:   []api.Code{{Type: n}},
			Tables:  []api.TableType{{Ref: api.FuncRef, L: l}},
			Mems:    []api.Limits{{Min: n}, l},
			Exports: []api.Export{{Index: n}},
			Start:   n + 1,
			Elems:   []api.Elem{{Ref: api.FuncRef, Table: n, Init: [][]api.Instr{ref(n)}}, {Ref: api.ExternRef, Table: n}},
			Datas:   []api.Data{{Mem: n}},
		})
	}
	for _, size := range []int{0, 1, 127, 128, 16383, 16384, 1 << 20} {
		checkRound(t, "sizes", api.Module{
			Exports: []api.Export{{Name: strings.Repeat("x", size)}},
			Funcs:   []api.Code{{Locals: slices.Repeat([]int{api.V128}, min(size, api.MaxLocals)), Body: slices.Repeat(list(plain()), size)}},
			Datas:   []api.Data{{Bytes: make([]byte, size)}},
		})
	}
}

// P11.2, P11.4: modules in all ways in which they may be written are the same, can be encoded, and are read back from that.
func TestOtherWaysToWrite(t *testing.T) {
	s := sequence(7)
	other := 0
	for i := range 6000 {
		m := full()
		if i%3 > 0 {
			m = s.module()
		}
		text := written(m, &s)
		checkModule(t, "a module", text, m, api.OK)
		got, _ := decode.Module([]byte(text))
		b, e := encode.Module(got)
		if again, e2 := decode.Module(b); e != api.OK || e2 != api.OK || !shape.Same(again, got) {
			t.Error("a decoded module", got, "can't be encoded or isn't read back:", int(e), int(e2))
		}
		if text != string(b) {
			other++
		}
	}
	if other < 4000 {
		t.Error("only", other, "are written in another way")
	}
}

// P11.4: whatever is decoded can be encoded, and is read back from that.
func TestWhatIsDecodedCanBeEncoded(t *testing.T) {
	s := sequence(8)
	good := 0
	for range 20000 {
		m, e := decode.Module([]byte(s.changed(written(s.module(), &s))))
		if e == api.OK {
			good++
			checkRound(t, "a changed module", m)
		}
		l, e := decode.Code([]byte(s.changed(writer{&s}.code(s.code(3)))))
		if e == api.OK {
			checkCodeRound(t, "changed instructions", l)
		}
	}
	if good < 500 {
		t.Error("only", good, "are good")
	}
}
