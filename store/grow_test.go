package store_test

import (
	"bytes"
	"math"
	"runtime"
	"slices"
	"testing"

	"bodkin/api"
	"bodkin/store"
)

// pages is so many pages of bytes that are not 0.
func pages(n int) []byte { return bytes.Repeat([]byte{7}, n*65536) }

// upTo is limits with a maximum.
func upTo(most int) api.Limits { return api.Limits{Max: most, Has: true} }

// P13.2: a memory grows to 65536 pages and no further.
// It is the first test, as the first memory of a program is made without touching its pages, and it looks at few of them.
func TestMemoryGrowToTheEnd(t *testing.T) {
	// The next tests shall not wait for as much garbage as this one leaves.
	defer runtime.GC()
	m := &store.Mem{}
	if got := m.Grow(65536, math.MaxInt); got != 0 || len(m.B) != 1<<32 {
		t.Fatal("65536 pages", got, len(m.B))
	}
	for _, at := range []int{0, 1<<31 - 1, 1 << 31, 1<<32 - 1} {
		if m.B[at] != 0 {
			t.Error("a byte that is not 0 at", at)
		}
	}
	if got := m.Grow(1, math.MaxInt); got != -1 || len(m.B) != 1<<32 {
		t.Error("65537 pages", got, len(m.B))
	}
	if got := m.Grow(0, math.MaxInt); got != 65536 || len(m.B) != 1<<32 {
		t.Error("65536 pages, by nothing", got, len(m.B))
	}
	checkIs(t, "Fill", m.Fill(1<<32-1, 7, 1), api.OK)
	checkIs(t, "Fill", m.Fill(1<<32, 7, 1), api.TrapMemory)
	if b, e := m.Read(1<<32-2, 2); string(b) != "\x00\x07" || e != api.OK {
		t.Error("Read gives", b, e)
	}
}

// P13.2: Grow at each bound.
func TestMemoryGrow(t *testing.T) {
	for _, c := range []struct {
		what string
		have int
		l    api.Limits
		n    uint64
		most int
		want int
	}{
		{"nothing by nothing", 0, api.Limits{}, 0, 0, 0},
		{"nothing by a page", 0, api.Limits{}, 1, 1, 0},
		{"a page by nothing", 1, api.Limits{}, 0, 65536, 1},
		{"a page by two", 1, api.Limits{}, 2, 65536, 1},
		{"three pages by two", 3, api.Limits{}, 2, 65536, 3},

		{"up to most", 1, api.Limits{}, 2, 3, 1},
		{"beyond most", 1, api.Limits{}, 3, 3, -1},
		{"at most", 3, api.Limits{}, 0, 3, 3},
		{"one more than most", 3, api.Limits{}, 1, 3, -1},
		{"above most, by nothing", 3, api.Limits{}, 0, 2, -1},
		{"above most", 3, api.Limits{}, 1, 2, -1},
		{"a most of 0", 0, api.Limits{}, 1, 0, -1},
		{"a negative most, by nothing", 0, api.Limits{}, 0, -1, -1},
		{"a negative most", 0, api.Limits{}, 1, -1, -1},
		{"the least most", 0, api.Limits{}, 0, math.MinInt, -1},
		{"the least most", 1, api.Limits{}, 1, math.MinInt, -1},
		{"the greatest most", 1, api.Limits{}, 1, math.MaxInt, 1},

		{"a page, which is the maximum", 1, upTo(1), 1, 65536, -1},
		{"up to the maximum", 1, upTo(3), 2, 65536, 1},
		{"beyond the maximum", 1, upTo(3), 3, 65536, -1},
		{"at the maximum, by nothing", 1, upTo(1), 0, 65536, 1},
		{"above the maximum, by nothing", 2, upTo(1), 0, 65536, -1},
		{"a maximum of 0", 0, upTo(0), 1, 65536, -1},
		{"a maximum of 0, by nothing", 0, upTo(0), 0, 65536, 0},
		{"a negative maximum, by nothing", 0, upTo(-1), 0, 65536, -1},
		{"the least maximum", 1, upTo(math.MinInt), 1, 65536, -1},
		{"the greatest maximum", 1, upTo(math.MaxInt), 1, math.MaxInt, 1},
		{"a maximum beyond most", 1, upTo(4), 2, 2, -1},
		{"most beyond a maximum", 1, upTo(2), 2, 4, -1},
		{"a maximum that is none", 1, api.Limits{Max: 1}, 1, 2, 1},
		{"a negative maximum that is none", 0, api.Limits{Max: -1}, 1, 2, 0},
		{"a minimum that is greater", 1, api.Limits{Min: 5}, 1, 2, 1},

		{"65537 pages", 0, api.Limits{}, 65537, math.MaxInt, -1},
		{"65537 pages", 1, api.Limits{}, 65536, 65537, -1},
		{"65537 pages", 1, upTo(65537), 65536, 65537, -1},
		{"65537 pages", 1, upTo(math.MaxInt), 65536, math.MaxInt, -1},
		{"2^32 pages", 0, api.Limits{}, 1 << 32, math.MaxInt, -1},
		{"2^47 pages", 1, api.Limits{}, 1 << 47, math.MaxInt, -1},
		{"2^48 pages, whose bytes are 2^64", 1, api.Limits{}, 1 << 48, math.MaxInt, -1},
		{"2^63 - 2 pages", 1, api.Limits{}, 1<<63 - 2, math.MaxInt, -1},
		{"2^63 - 1 pages", 1, api.Limits{}, 1<<63 - 1, math.MaxInt, -1},
		{"2^63 pages", 1, api.Limits{}, 1 << 63, math.MaxInt, -1},
		{"2^64 - 1 pages", 1, api.Limits{}, math.MaxUint64, math.MaxInt, -1},
		{"2^64 - 1 pages, to none", 1, api.Limits{}, math.MaxUint64, 0, -1},
		{"2^64 - 2 pages, to one", 3, upTo(3), math.MaxUint64 - 1, 3, -1},
	} {
		old := pages(c.have)
		m := &store.Mem{L: c.l, B: old}
		if got := m.Grow(c.n, c.most); got != c.want {
			t.Error("Grow,", c.what, "is", got, "and not", c.want)
			continue
		}
		want := pages(c.have)
		if c.want >= 0 {
			want = append(want, make([]byte, c.n*65536)...)
		}
		if !bytes.Equal(m.B, want) {
			t.Error("Grow,", c.what, "leaves other bytes:", len(m.B))
		}
		if m.L != c.l || !bytes.Equal(old, pages(c.have)) {
			t.Error("Grow,", c.what, "changes something else")
		}
	}
}

// P13.2: one page after the other, each written to.
func TestMemoryGrowAgain(t *testing.T) {
	m := &store.Mem{L: api.Limits{Max: 9, Has: true}}
	for i := range 9 {
		if got := m.Grow(1, 100); got != i {
			t.Error("Grow is", got, "and not", i)
		}
		checkIs(t, "Fill", m.Fill(uint64(i)*65536, byte(i+1), 65536), api.OK)
	}
	if got := m.Grow(1, 100); got != -1 {
		t.Error("Grow is", got)
	}
	want := []byte(nil)
	for i := range 9 {
		want = append(want, bytes.Repeat([]byte{byte(i + 1)}, 65536)...)
	}
	if !bytes.Equal(m.B, want) {
		t.Error("other bytes")
	}
}

// P13.2: what stands in the array behind a memory is neither its own nor changed by it.
func TestMemoryGrowIsNew(t *testing.T) {
	array := pages(3)
	a, b := &store.Mem{B: array[:65536]}, &store.Mem{B: array[65536:]}
	if got := a.Grow(1, 2); got != 1 {
		t.Error("Grow is", got)
	}
	if !bytes.Equal(a.B, append(pages(1), make([]byte, 65536)...)) {
		t.Error("the new page is not 0")
	}
	a.Fill(0, 9, 2*65536)
	if !bytes.Equal(b.B, pages(2)) {
		t.Error("another memory is changed")
	}
}

// P13.3: Grow at each bound.
func TestTableGrow(t *testing.T) {
	for _, c := range []struct {
		what string
		have int
		l    api.Limits
		n    uint64
		want int
	}{
		{"nothing by nothing", 0, api.Limits{}, 0, 0},
		{"nothing by one", 0, api.Limits{}, 1, 0},
		{"three by nothing", 3, api.Limits{}, 0, 3},
		{"three by two", 3, api.Limits{}, 2, 3},

		{"up to 10000 at once", 0, api.Limits{}, 10000, 0},
		{"beyond 10000 at once", 0, api.Limits{}, 10001, -1},
		{"up to 10000", 9999, api.Limits{}, 1, 9999},
		{"beyond 10000", 9999, api.Limits{}, 2, -1},
		{"at 10000, by nothing", 10000, api.Limits{}, 0, 10000},
		{"at 10000", 10000, api.Limits{}, 1, -1},
		{"above 10000, by nothing", 10001, api.Limits{}, 0, -1},
		{"above 10000", 10001, api.Limits{}, 1, -1},

		{"up to the maximum", 2, upTo(4), 2, 2},
		{"beyond the maximum", 2, upTo(4), 3, -1},
		{"at the maximum, by nothing", 4, upTo(4), 0, 4},
		{"at the maximum", 4, upTo(4), 1, -1},
		{"above the maximum, by nothing", 4, upTo(3), 0, -1},
		{"a maximum of 0", 0, upTo(0), 1, -1},
		{"a maximum of 0, by nothing", 0, upTo(0), 0, 0},
		{"a negative maximum, by nothing", 0, upTo(-1), 0, -1},
		{"the least maximum", 1, upTo(math.MinInt), 1, -1},
		{"a maximum of 10000", 1, upTo(10000), 9999, 1},
		{"a maximum beyond 10000", 1, upTo(10001), 10000, -1},
		{"the greatest maximum", 1, upTo(math.MaxInt), 10000, -1},
		{"the greatest maximum", 1, upTo(math.MaxInt), 9999, 1},
		{"a maximum that is none", 1, api.Limits{Max: 1}, 1, 1},
		{"a negative maximum that is none", 0, api.Limits{Max: -1}, 1, 0},
		{"a minimum that is greater", 1, api.Limits{Min: 5}, 1, 1},

		{"2^32 elements", 1, api.Limits{}, 1 << 32, -1},
		{"2^63 - 2 elements", 1, api.Limits{}, 1<<63 - 2, -1},
		{"2^63 - 1 elements", 1, api.Limits{}, 1<<63 - 1, -1},
		{"2^63 elements", 1, api.Limits{}, 1 << 63, -1},
		{"2^64 - 1 elements", 1, api.Limits{}, math.MaxUint64, -1},
		{"2^64 - 2 elements, to one", 3, upTo(3), math.MaxUint64 - 1, -1},
	} {
		old := slices.Repeat(values(5), c.have)
		typ := api.TableType{Ref: api.ExternRef, L: c.l}
		o := &store.Table{Type: typ, L: old}
		if got := o.Grow(c.n, value(9)); got != c.want {
			t.Error("Grow,", c.what, "is", got, "and not", c.want)
			continue
		}
		want := slices.Repeat(values(5), c.have)
		if c.want >= 0 {
			want = append(want, slices.Repeat(values(9), int(c.n))...)
		}
		if !slices.Equal(o.L, want) {
			t.Error("Grow,", c.what, "leaves other elements:", len(o.L))
		}
		if o.Type != typ || !slices.Equal(old, slices.Repeat(values(5), c.have)) {
			t.Error("Grow,", c.what, "changes something else")
		}
	}
}

// P13.3: one element after the other, each of them another one.
func TestTableGrowAgain(t *testing.T) {
	o := &store.Table{Type: api.TableType{L: api.Limits{Max: 9, Has: true}}}
	for i := range 9 {
		if got := o.Grow(1, value(i)); got != i {
			t.Error("Grow is", got, "and not", i)
		}
	}
	if got := o.Grow(1, value(9)); got != -1 {
		t.Error("Grow is", got)
	}
	if !slices.Equal(o.L, values(0, 1, 2, 3, 4, 5, 6, 7, 8)) {
		t.Error("other elements", o.L)
	}
}

// P13.3: what stands in the array behind a table is neither its own nor changed by it.
func TestTableGrowIsNew(t *testing.T) {
	array := values(1, 2, 3)
	a, b := &store.Table{L: array[:1]}, &store.Table{L: array[1:]}
	if got := a.Grow(1, value(9)); got != 1 {
		t.Error("Grow is", got)
	}
	a.Fill(0, value(8), 2)
	if !slices.Equal(b.L, values(2, 3)) {
		t.Error("another table is changed to", b.L)
	}
}
