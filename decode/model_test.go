package decode_test

import (
	"math/big"
	"slices"
	"unicode/utf8"

	"bodkin/api"
	"bodkin/ops"
)

// model reads a module by positions in all of its bytes. What may not be ends it by a panic with the error.
type model struct {
	text string
	at   int
	end  int // of the innermost stretch of a given length
}

func (m *model) need(is bool) {
	if !is {
		panic(api.ErrForm)
	}
}

func (m *model) byte() int {
	m.need(m.at < m.end)
	m.at++
	return int(m.text[m.at-1])
}

// among reads a byte that must be one of some.
func (m *model) among(l ...int) int { return m.oneOf(m.byte(), l) }

// oneOf is a number that must be one of some.
func (m *model) oneOf(n int, l []int) int {
	m.need(slices.Contains(l, n))
	return n
}

// number reads a number of so many bits, by what its bytes are worth.
func (m *model) number(bits int, signed bool) *big.Int {
	sum, worth := new(big.Int), big.NewInt(1)
	low, high := new(big.Int), new(big.Int).Lsh(big.NewInt(1), uint(bits))
	if signed {
		half := new(big.Int).Rsh(high, 1)
		low.Neg(half)
		high = half
	}
	for count := 1; ; count++ {
		b := m.byte()
		m.need(b < 128 || count < (bits+6)/7)
		sum.Add(sum, new(big.Int).Mul(worth, big.NewInt(int64(b%128))))
		worth.Mul(worth, big.NewInt(128))
		if b >= 128 {
			continue
		}
		if signed && b >= 64 {
			sum.Sub(sum, worth)
		}
		m.need(sum.Cmp(low) >= 0 && sum.Cmp(high) < 0)
		return sum
	}
}

func (m *model) u() int { return int(m.number(32, false).Int64()) }

// stretch reads a length and, within so many bytes, all that content reads.
func (m *model) stretch(content func()) {
	size := m.u()
	m.need(size <= m.end-m.at)
	outer := m.end
	m.end = m.at + size
	content()
	m.need(m.at == m.end)
	m.end = outer
}

// rest is what is left of a stretch.
func (m *model) rest() string {
	text := m.text[m.at:m.end]
	m.at = m.end
	return text
}

func (m *model) name() (text string) {
	m.stretch(func() { text = m.rest() })
	m.need(utf8.ValidString(text))
	return text
}

func (m *model) numbers(one func() int) (l []int) {
	for range m.u() {
		l = append(l, one())
	}
	return l
}

func (m *model) types() []int {
	return m.numbers(func() int { return m.among(valueTypes...) })
}

// little reads so many bytes of a number.
func (m *model) little(count int) uint64 {
	n := new(big.Int)
	for i := range count {
		n.Add(n, new(big.Int).Lsh(big.NewInt(int64(m.byte())), uint(8*i)))
	}
	return n.Uint64()
}

// operand reads one letter of the table.
func (m *model) operand(letter rune, in *api.Instr) {
	switch letter {
	case 'a':
		in.A = m.u()
	case 'b':
		in.B = m.u()
	case 'c':
		in.A = m.byte()
	case 'R':
		in.A = m.among(refTypes...)
	case 'l':
		in.L = m.numbers(m.u)
	case 't':
		in.L = m.types()
	case 'o':
		in.L = []int{m.byte()}
	case 's':
		for range 16 {
			in.L = append(in.L, m.byte())
		}
	case 'i':
		in.N = uint64(uint32(m.number(32, true).Int64()))
	case 'I':
		in.N = uint64(m.number(64, true).Int64())
	case '4':
		in.N = m.little(4)
	case '8':
		in.N = m.little(8)
	case 'h':
		in.H = m.little(8)
	case '0':
		m.among(0)
	case 'B':
		m.blockType(in)
	}
}

func (m *model) blockType(in *api.Instr) {
	m.need(m.at < m.end)
	first := int(m.text[m.at])
	switch {
	case first == 0x40:
		m.at++
	case slices.Contains(valueTypes, first):
		m.at++
		in.A, in.B = 1, first
	default:
		n := m.number(33, true)
		m.need(n.Sign() >= 0)
		in.A, in.B = 2, int(n.Int64())
	}
}

// isKnown tells which numbers are instructions'.
var isKnown = func() map[int]bool {
	out := map[int]bool{}
	for _, op := range known {
		out[op] = true
	}
	return out
}()

// opened is a block that has not ended, with the instructions at its end.
type opened struct {
	in     api.Instr
	isElse bool
	l      []api.Instr
}

// code reads instructions up to their end, with a list of the blocks that have not ended instead of recursion.
func (m *model) code() []api.Instr {
	stack := []opened{{}}
	for {
		top := &stack[len(stack)-1]
		op := m.byte()
		switch {
		case op == 0x0b:
			in, l := top.in, top.l
			if top.isElse {
				in.Else = l
			} else {
				in.Body = l
			}
			stack = stack[:len(stack)-1]
			if len(stack) == 0 {
				return l
			}
			above := &stack[len(stack)-1]
			above.l = append(above.l, in)
			continue
		case op == 0x05:
			m.need(top.in.Op == 0x04 && !top.isElse)
			top.in.Body, top.in.Other, top.isElse, top.l = top.l, true, true, nil
			continue
		case op == 0xfc || op == 0xfd:
			sub := m.u()
			m.need(sub < 256)
			op = op*256 + sub
		}
		m.need(isKnown[op])
		if len(stack) > 500 {
			panic(api.ErrNest)
		}
		in := api.Instr{Op: op}
		for _, letter := range operands[ops.Imm(op)] {
			m.operand(letter, &in)
		}
		if ops.Imm(op) == ops.ImmBlock {
			stack = append(stack, opened{in: in})
		} else {
			top.l = append(top.l, in)
		}
	}
}

func (m *model) limits() (l api.Limits) {
	l.Has = m.among(0, 1) == 1
	l.Min = m.u()
	if l.Has {
		l.Max = m.u()
	}
	return l
}

func (m *model) table() (t api.TableType) {
	t.Ref = m.among(refTypes...)
	t.L = m.limits()
	return t
}

func (m *model) global() (g api.GlobalType) {
	g.Type = m.among(valueTypes...)
	g.Mut = m.among(0, 1) == 1
	return g
}

func (m *model) imported() (i api.Import) {
	i.Module = m.name()
	i.Name = m.name()
	switch i.Kind = m.among(0, 1, 2, 3); i.Kind {
	case 0:
		i.Type = m.u()
	case 1:
		i.Table = m.table()
	case 2:
		i.Mem = m.limits()
	case 3:
		i.Global = m.global()
	}
	return i
}

func (m *model) elem() (e api.Elem) {
	number := m.oneOf(m.u(), []int{0, 1, 2, 3, 4, 5, 6, 7})
	e.Mode = []int{api.Active, api.Passive, api.Active, api.Declared}[number%4]
	e.Ref = api.FuncRef
	if number == 2 || number == 6 {
		e.Table = m.u()
	}
	if number%2 == 0 {
		e.Offset = m.code()
	}
	switch number {
	case 1, 2, 3:
		m.among(0)
	case 5, 6, 7:
		e.Ref = m.among(refTypes...)
	}
	for range m.u() {
		if number < 4 {
			e.Init = append(e.Init, ref(m.u()))
		} else {
			e.Init = append(e.Init, m.code())
		}
	}
	return e
}

func (m *model) function() (c api.Code) {
	m.stretch(func() {
		for range m.u() {
			count := m.u()
			typ := m.among(valueTypes...)
			m.need(count+len(c.Locals) <= 50000)
			c.Locals = append(c.Locals, slices.Repeat([]int{typ}, count)...)
		}
		c.Body = m.code()
	})
	return c
}

func (m *model) data() (d api.Data) {
	number := m.oneOf(m.u(), []int{0, 1, 2})
	if number == 2 {
		d.Mem = m.u()
	}
	if number != 1 {
		d.Offset = m.code()
	} else {
		d.Mode = api.Passive
	}
	for range m.u() {
		d.Bytes = append(d.Bytes, byte(m.byte()))
	}
	return d
}

// section reads what is in a section; what section 3 and section 12 tell goes to the map.
func (m *model) section(number int, out *api.Module, told map[int][]int) {
	if number == 0 {
		m.name()
		m.rest()
		return
	}
	count := m.u()
	if number == 8 {
		out.Start = count + 1
		return
	}
	if number == 12 {
		told[12] = []int{count}
		return
	}
	for range count {
		switch number {
		case 1:
			m.among(0x60)
			params := m.types()
			out.Types = append(out.Types, api.FuncType{Params: params, Results: m.types()})
		case 2:
			out.Imports = append(out.Imports, m.imported())
		case 3:
			told[3] = append(told[3], m.u())
		case 4:
			out.Tables = append(out.Tables, m.table())
		case 5:
			out.Mems = append(out.Mems, m.limits())
		case 6:
			typ := m.global()
			out.Globals = append(out.Globals, api.Var{Type: typ, Init: m.code()})
		case 7:
			name := m.name()
			kind := m.among(0, 1, 2, 3)
			out.Exports = append(out.Exports, api.Export{Name: name, Kind: kind, Index: m.u()})
		case 9:
			out.Elems = append(out.Elems, m.elem())
		case 10:
			out.Funcs = append(out.Funcs, m.function())
		case 11:
			out.Datas = append(out.Datas, m.data())
		}
	}
}

// asksForCount tells whether an instruction with a segment of bytes is among some, at any depth.
func asksForCount(l []api.Instr) bool {
	return slices.ContainsFunc(l, func(in api.Instr) bool {
		return in.Op == 0xfc08 || in.Op == 0xfc09 || asksForCount(in.Body) || asksForCount(in.Else)
	})
}

func (m *model) module() (out api.Module) {
	for _, c := range []byte(header) {
		m.among(int(c))
	}
	left := []int{1, 2, 3, 4, 5, 6, 7, 8, 9, 12, 10, 11}
	told := map[int][]int{}
	for m.at < m.end {
		number := m.byte()
		if number != 0 {
			at := slices.Index(left, number)
			m.need(at >= 0)
			left = left[at+1:]
		}
		m.stretch(func() { m.section(number, &out, told) })
	}
	m.need(len(told[3]) == len(out.Funcs))
	for i, typ := range told[3] {
		out.Funcs[i].Type = typ
	}
	if told[12] != nil {
		m.need(told[12][0] == len(out.Datas))
		out.Count = true
	}
	for _, c := range out.Funcs {
		m.need(out.Count || !asksForCount(c.Body))
	}
	return out
}

// modelled is what read answers, or the error that ends it.
func modelled[T any](text string, read func(m *model) T) (out T, e api.Errno) {
	defer func() {
		if p := recover(); p != nil {
			var none T
			out, e = none, p.(api.Errno)
		}
	}()
	m := &model{text: text, end: len(text)}
	out = read(m)
	m.need(m.at == m.end)
	return out, api.OK
}

// modelModule is what Module has to answer.
func modelModule(text string) (api.Module, api.Errno) { return modelled(text, (*model).module) }

// modelCode is what Code has to answer.
func modelCode(text string) ([]api.Instr, api.Errno) { return modelled(text, (*model).code) }
