package store_test

import (
	"math"
	"math/bits"
	"slices"
	"testing"

	"bodkin/api"
	"bodkin/store"
)

// edges are numbers about small sizes and about those at which a sum or a change of a number's type goes over.
var edges = []uint64{
	0, 1, 2, 3, 4, 5, 6, 1 << 31, 1<<32 - 1, 1 << 32, 1<<63 - 1, 1 << 63, 1<<63 + 1,
	math.MaxUint64 - 3, math.MaxUint64 - 2, math.MaxUint64 - 1, math.MaxUint64,
}

// lists are one of each small size.
var lists = [][]int{{}, {1}, {1, 2}, {1, 2, 3}, {1, 2, 3, 4}, {1, 2, 3, 4, 5}}

// isWithin tells whether a range is within a list: its end is worked out in 128 bits.
func isWithin(at, n uint64, l []int) bool {
	end, carry := bits.Add64(at, n, 0)
	return carry == 0 && end <= uint64(len(l))
}

// moved is a list with n elements of another one in it, one by one.
func moved(to []int, at uint64, from []int, start, n uint64) []int {
	out, old := slices.Clone(to), slices.Clone(from)
	for i := uint64(0); i < n; i++ {
		out[at+i] = old[start+i]
	}
	return out
}

// checkElements holds an object against the elements that it must have, and the guards about them.
func checkElements(t *testing.T, what string, o object, want []int) {
	t.Helper()
	if got := o.all(); !slices.Equal(got, guarded(want)) {
		t.Error(what, "leaves", got, "and not", guarded(want))
	}
}

// P13.2, P13.3: Fill with all ranges about small sizes, and far from them.
func TestFillRanges(t *testing.T) {
	for _, l := range lists {
		for _, at := range edges {
			for _, n := range edges {
				for _, o := range objects(l...) {
					e := o.fill(at, 9, n)
					if !isWithin(at, n, l) {
						checkIs(t, "Fill", e, o.trap())
						checkElements(t, "Fill", o, l)
						continue
					}
					checkIs(t, "Fill", e, api.OK)
					checkElements(t, "Fill", o, moved(l, at, []int{9, 9, 9, 9, 9}, 0, n))
				}
			}
		}
	}
}

// P13.2, P13.3: Copy within a memory and within a table, with all ranges.
func TestCopyRanges(t *testing.T) {
	for _, l := range lists {
		for _, to := range edges {
			for _, from := range edges {
				for _, n := range edges {
					for _, o := range objects(l...) {
						e := o.copy(to, from, n)
						if !isWithin(to, n, l) || !isWithin(from, n, l) {
							checkIs(t, "Copy", e, o.trap())
							checkElements(t, "Copy", o, l)
							continue
						}
						checkIs(t, "Copy", e, api.OK)
						checkElements(t, "Copy", o, moved(l, to, l, from, n))
					}
				}
			}
		}
	}
}

// others are lists of each small size with other elements.
var others = [][]int{{}, {11}, {11, 12}, {11, 12, 13}, {11, 12, 13, 14}, {11, 12, 13, 14, 15}}

// eachMove calls visit with all lists, ranges and others, and whether both ranges are within them.
func eachMove(visit func(l, other []int, to, from, n uint64, ok bool)) {
	for _, l := range lists {
		for _, other := range others {
			for _, to := range edges {
				for _, from := range edges {
					for _, n := range edges {
						visit(l, other, to, from, n, isWithin(to, n, l) && isWithin(from, n, other))
					}
				}
			}
		}
	}
}

// P13.2, P13.3: Init from a list, which stays as it is, with all ranges.
func TestInitRanges(t *testing.T) {
	eachMove(func(l, other []int, to, from, n uint64, ok bool) {
		for _, o := range objects(l...) {
			e, then := o.init(to, from, n, other)
			if !slices.Equal(then, other) {
				t.Error("Init changes what is handed in to", then)
			}
			if !ok {
				checkIs(t, "Init", e, o.trap())
				checkElements(t, "Init", o, l)
				continue
			}
			checkIs(t, "Init", e, api.OK)
			checkElements(t, "Init", o, moved(l, to, other, from, n))
		}
	})
}

// P13.3: Copy from another table, which stays as it is, with all ranges.
func TestTableCopyRanges(t *testing.T) {
	eachMove(func(l, other []int, to, from, n uint64, ok bool) {
		o, x := newTable(l...), newTable(other...)
		e := o.Copy(to, from, n, x.Table)
		checkElements(t, "Copy from another table, to that one,", x, other)
		if !ok {
			checkIs(t, "Copy from another table", e, api.TrapTable)
			checkElements(t, "Copy from another table", o, l)
			return
		}
		checkIs(t, "Copy from another table", e, api.OK)
		checkElements(t, "Copy from another table", o, moved(l, to, other, from, n))
	})
}

// P13.2: Write of all small lists, which stay as they are, at all places.
func TestWriteRanges(t *testing.T) {
	for _, l := range lists {
		for _, other := range others {
			for _, at := range edges {
				m := newMemory(l...).(memory)
				b := mapped(guarded(other), toByte)
				e := m.Write(at, inner(b))
				if !slices.Equal(b, mapped(guarded(other), toByte)) {
					t.Error("Write changes what is handed in to", b)
				}
				n := uint64(len(other))
				if !isWithin(at, n, l) {
					checkIs(t, "Write", e, api.TrapMemory)
					checkElements(t, "Write", m, l)
					continue
				}
				checkIs(t, "Write", e, api.OK)
				checkElements(t, "Write", m, moved(l, at, other, 0, n))
			}
		}
	}
}

// P13.2: Read of all ranges, with numbers that are negative too.
func TestReadRanges(t *testing.T) {
	for _, l := range lists {
		for _, at := range edges {
			for _, edge := range edges {
				m := newMemory(l...).(memory)
				n := int(edge)
				b, e := m.Read(at, n)
				checkElements(t, "Read", m, l)
				want, wanted := []byte(nil), api.TrapMemory
				switch {
				case n < 0:
					wanted = api.ErrArg
				case isWithin(at, edge, l):
					want, wanted = mapped(l[at:at+edge], toByte), api.OK
				}
				checkIs(t, "Read", e, wanted)
				if !slices.Equal(b, want) {
					t.Error("Read gives", b, "and not", want)
				}
			}
		}
	}
}

// P13.3: Get and Set at all places.
func TestGetAndSetRanges(t *testing.T) {
	for _, l := range lists {
		for _, i := range edges {
			o := newTable(l...)
			v, e := o.Get(i)
			checkElements(t, "Get", o, l)
			set := o.Set(i, value(9))
			if i >= uint64(len(l)) {
				checkIs(t, "Get", e, api.TrapTable)
				checkIs(t, "Set", set, api.TrapTable)
				checkElements(t, "Set", o, l)
				if v != (api.Value{}) {
					t.Error("Get gives", v)
				}
				continue
			}
			checkIs(t, "Get", e, api.OK)
			checkIs(t, "Set", set, api.OK)
			checkElements(t, "Set", o, moved(l, i, []int{9}, 0, 1))
			if v != value(l[i]) {
				t.Error("Get gives", v)
			}
		}
	}
}

// P13.2: the ends of a memory of one page, as the chapter's examples name them.
func TestPageByHand(t *testing.T) {
	m := &store.Mem{B: make([]byte, 65536)}
	checkIs(t, "Fill at 65536, 0 bytes", m.Fill(65536, 7, 0), api.OK)
	checkIs(t, "Fill at 65537, 0 bytes", m.Fill(65537, 7, 0), api.TrapMemory)
	checkIs(t, "Fill at 65535, 2 bytes", m.Fill(65535, 7, 2), api.TrapMemory)
	checkIs(t, "Write at 65535, 2 bytes", m.Write(65535, []byte("ab")), api.TrapMemory)
	checkIs(t, "Write at 65536, 0 bytes", m.Write(65536, nil), api.OK)
	checkIs(t, "Write at 65537, 0 bytes", m.Write(65537, nil), api.TrapMemory)
	checkIs(t, "Copy to 65535, 2 bytes", m.Copy(65535, 0, 2), api.TrapMemory)
	checkIs(t, "Copy from 65535, 2 bytes", m.Copy(0, 65535, 2), api.TrapMemory)
	checkIs(t, "Init at 65535, 2 bytes", m.Init(65535, 0, 2, []byte("ab")), api.TrapMemory)
	checkIs(t, "Init at 65536, 0 bytes from the end", m.Init(65536, 2, 0, []byte("ab")), api.OK)
	checkIs(t, "Init at 65536, 0 bytes from beyond the end", m.Init(65536, 3, 0, []byte("ab")), api.TrapMemory)
	if !slices.Equal(m.B, make([]byte, 65536)) {
		t.Error("changed")
	}
	checkIs(t, "Write at 65534, 2 bytes", m.Write(65534, []byte("ab")), api.OK)
	checkIs(t, "Fill at 0, 65534 bytes", m.Fill(0, 255, 65534), api.OK)
	b, e := m.Read(65533, 3)
	checkIs(t, "Read at 65533, 3 bytes", e, api.OK)
	if string(b) != "\xffab" {
		t.Error("Read gives", b)
	}
	if b, e = m.Read(65534, 3); len(b) != 0 || e != api.TrapMemory {
		t.Error("Read at 65534, 3 bytes", b, e)
	}
	if b, e = m.Read(65537, -1); len(b) != 0 || e != api.ErrArg {
		t.Error("Read at 65537, -1 bytes", b, e)
	}
}

// P13.2, P13.3: ranges that overlap are copied as they were before, in both directions.
func TestCopyByHand(t *testing.T) {
	for _, o := range objects(1, 2, 3, 4, 5, 6) {
		checkIs(t, "Copy upwards", o.copy(2, 0, 4), api.OK)
		checkElements(t, "Copy upwards", o, []int{1, 2, 1, 2, 3, 4})
	}
	for _, o := range objects(1, 2, 3, 4, 5, 6) {
		checkIs(t, "Copy downwards", o.copy(0, 1, 5), api.OK)
		checkElements(t, "Copy downwards", o, []int{2, 3, 4, 5, 6, 6})
	}
	o, x := newTable(1, 2, 3), newTable(4, 5)
	checkIs(t, "Copy from another table", o.Copy(1, 0, 2, x.Table), api.OK)
	checkElements(t, "Copy from another table", o, []int{1, 4, 5})
}

// P13.2: what Read gives and what is written share no memory with the memory.
func TestBytesAreNew(t *testing.T) {
	m := newMemory(1, 2, 3).(memory)
	b, _ := m.Read(0, 2)
	for i := range b[:cap(b)] {
		b[:cap(b)][i] = 77
	}
	checkElements(t, "a change of what Read gives", m, []int{1, 2, 3})
	in := []byte{4, 5, 6}
	m.Write(0, in)
	m.Init(1, 1, 2, in)
	in[0], in[1], in[2] = 88, 88, 88
	checkElements(t, "a change of what is written", m, []int{4, 5, 6})
	m.Fill(0, 99, 3)
	if !slices.Equal(in, []byte{88, 88, 88}) {
		t.Error("what is written changes with the memory to", in)
	}
}

// P13.3: what is written shares no memory with the table, and two tables share none.
func TestValuesAreNew(t *testing.T) {
	o, x := newTable(1, 2, 3), newTable(4, 5, 6)
	in := values(7, 8)
	o.Init(0, 0, 2, in)
	in[0], in[1] = value(0), value(0)
	checkElements(t, "a change of what is written", o, []int{7, 8, 3})
	o.Copy(0, 0, 3, x.Table)
	x.Fill(0, value(9), 3)
	checkElements(t, "a change of the other table", o, []int{4, 5, 6})
	o.Fill(0, value(10), 3)
	checkElements(t, "a change of this table, to the other one,", x, []int{9, 9, 9})
}
