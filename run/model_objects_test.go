package run_test

import (
	"encoding/binary"
	"regexp"
	"slices"
	"strconv"

	"bodkin/api"
)

// accessNames take the name of a load or a store apart: the type, the verb, the bits, how many of such lanes there are, and what is done with them.
var accessNames = regexp.MustCompile(`^(i32|i64|f32|f64|v128)\.(load|store)(\d*)(?:x(\d))?(?:_(s|u|splat|zero|lane))?$`)

// widths are how many bytes the types have.
var widths = map[string]int{"i32": 4, "i64": 8, "f32": 4, "f64": 8, "v128": 16}

// image are a value's bytes.
func image(v api.Value) []byte {
	b := binary.LittleEndian.AppendUint64(nil, v.Lo)
	return binary.LittleEndian.AppendUint64(b, v.Hi)
}

// valueOf is the value of a type with these bytes.
func valueOf(typ int, b []byte) api.Value {
	b = append(slices.Clone(b), make([]byte, 16)...)
	return api.Value{Type: typ, Lo: binary.LittleEndian.Uint64(b), Hi: binary.LittleEndian.Uint64(b[8:])}
}

// stretched are a number's bytes with more of them behind, so that there are n.
func stretched(b []byte, n int, signed bool) []byte {
	more := byte(0)
	if signed && b[len(b)-1] >= 128 {
		more = 255
	}
	return append(slices.Clone(b), slices.Repeat([]byte{more}, n-len(b))...)
}

// place is where n bytes of the memory are, all of which must be there.
func (a *activity) place(at uint64, n int) []byte {
	b := a.s.Mems[a.inst.Mems[0]].B
	if at > uint64(len(b)) || uint64(len(b))-at < uint64(n) {
		a.end(api.TrapMemory)
	}
	return b[at : at+uint64(n)]
}

// access does a load or a store, by its name.
func (a *activity) access(name string, in api.Instr) {
	parts := accessNames.FindStringSubmatch(name)
	whole, how := widths[parts[1]], parts[5]
	n := whole
	if bits, err := strconv.Atoi(parts[3]); err == nil {
		n = bits / 8
	}
	lanes := 1
	if parts[4] != "" {
		lanes, _ = strconv.Atoi(parts[4])
	}
	var v api.Value
	if parts[2] == "store" || how == "lane" {
		v = a.pop()
	}
	b := a.place(a.pop().Lo+uint64(in.B), n*lanes)
	lane := 0
	if how == "lane" {
		lane = in.L[0] * n
	}
	if parts[2] == "store" {
		copy(b, image(v)[lane:])
		return
	}
	var out []byte
	switch {
	case how == "splat":
		out = slices.Repeat(b, 16/n)
	case how == "lane":
		out = image(v)
		copy(out[lane:], b)
	case lanes > 1:
		for i := range lanes {
			out = append(out, stretched(b[i*n:(i+1)*n], 2*n, how == "s")...)
		}
	default:
		out = stretched(b, whole, how == "s")
	}
	a.push(valueOf(typeNames[parts[1]], out))
}

// grown tells whether something may have n more elements: no more than each of the limits.
func grown(size int, n uint64, l api.Limits, most int) bool {
	end := uint64(size) + n
	return end <= uint64(most) && (!l.Has || end <= uint64(l.Max))
}

// checked makes sure that a range is within a list.
func checked[T any](a *activity, l []T, at, n uint64, trap api.Errno) {
	if at+n > uint64(len(l)) {
		a.end(trap)
	}
}

// moved copies a range, as it was before, to another one.
func moved[T any](a *activity, to []T, at uint64, from []T, start, n uint64, trap api.Errno) {
	checked(a, to, at, n, trap)
	checked(a, from, start, n, trap)
	old := slices.Clone(from)
	for i := range n {
		to[at+i] = old[start+i]
	}
}

// whole does an instruction on whole memories, tables and segments.
func (a *activity) whole(name string, in api.Instr) {
	switch name {
	case "data.drop":
		a.s.Datas[a.inst.Datas[in.A]] = nil
	case "elem.drop":
		a.s.Elems[a.inst.Elems[in.A]] = nil
	case "memory.size", "memory.grow", "memory.fill", "memory.copy", "memory.init":
		a.memory(name, in)
	default:
		a.table(name, in)
	}
}

func (a *activity) memory(name string, in api.Instr) {
	m := a.s.Mems[a.inst.Mems[0]]
	pages := len(m.B) / 65536
	switch name {
	case "memory.size":
		a.pushI32(pages)
		return
	case "memory.grow":
		n := a.pop().Lo
		if !grown(pages, n, m.L, min(a.l.Pages, 65536)) {
			a.pushI32(-1)
			return
		}
		m.B = append(m.B, make([]byte, n*65536)...)
		a.pushI32(pages)
		return
	}
	l := a.pops(3)
	to, from, n := l[0].Lo, l[1].Lo, l[2].Lo
	switch name {
	case "memory.fill":
		moved(a, m.B, to, slices.Repeat([]byte{byte(from)}, int(min(n, 1<<20))), 0, n, api.TrapMemory)
	case "memory.copy":
		moved(a, m.B, to, m.B, from, n, api.TrapMemory)
	case "memory.init":
		moved(a, m.B, to, a.s.Datas[a.inst.Datas[in.A]], from, n, api.TrapMemory)
	}
}

func (a *activity) table(name string, in api.Instr) {
	index := in.A
	if name == "table.init" {
		index = in.B
	}
	t := a.s.Tables[a.inst.Tables[index]]
	switch name {
	case "table.get":
		i := a.pop().Lo
		checked(a, t.L, i, 1, api.TrapTable)
		a.push(t.L[i])
	case "table.set":
		v, i := a.pop(), a.pop().Lo
		checked(a, t.L, i, 1, api.TrapTable)
		t.L[i] = v
	case "table.size":
		a.pushI32(len(t.L))
	case "table.grow":
		n, v, size := a.pop().Lo, a.pop(), len(t.L)
		if !grown(size, n, t.Type.L, 10000) {
			a.pushI32(-1)
			return
		}
		t.L = append(t.L, slices.Repeat([]api.Value{v}, int(n))...)
		a.pushI32(size)
	case "table.fill":
		l := a.pops(3)
		moved(a, t.L, l[0].Lo, slices.Repeat(l[1:2], int(min(l[2].Lo, 1<<14))), 0, l[2].Lo, api.TrapTable)
	case "table.copy":
		l := a.pops(3)
		moved(a, t.L, l[0].Lo, a.s.Tables[a.inst.Tables[in.B]].L, l[1].Lo, l[2].Lo, api.TrapTable)
	case "table.init":
		l := a.pops(3)
		moved(a, t.L, l[0].Lo, a.s.Elems[a.inst.Elems[in.A]], l[1].Lo, l[2].Lo, api.TrapTable)
	default:
		panic("not known: " + name)
	}
}
