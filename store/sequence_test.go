package store_test

import (
	"slices"
	"testing"

	"bodkin/api"
	"bodkin/store"
)

// sequence is numbers without a pattern, the same ones each time.
type sequence uint64

func (s *sequence) next(n int) int {
	*s = *s*6364136223846793005 + 1442695040888963407
	return int(uint64(*s) >> 33 % uint64(n))
}

// place is where a range begins, and how long it is: mostly within so many elements.
func (s *sequence) place(size int) (at, n uint64) {
	at = uint64(s.next(size + 2))
	return at, uint64(s.next(size + 3 - int(at)))
}

// row is so many small numbers.
func (s *sequence) row(n int) []int {
	l := make([]int, n)
	for i := range l {
		l[i] = s.next(100)
	}
	return l
}

// step does something to an object; it gives what the object must be then, and whether that is done.
func (s *sequence) step(o object, l []int) (api.Errno, []int, bool) {
	to, n := s.place(len(l))
	from := uint64(s.next(len(l) + 2))
	switch s.next(3) {
	case 0:
		x := s.next(100)
		e := o.fill(to, x, n)
		if !isWithin(to, n, l) {
			return e, l, false
		}
		return e, moved(l, to, slices.Repeat([]int{x}, int(n)), 0, n), true
	case 1:
		e := o.copy(to, from, n)
		if !isWithin(to, n, l) || !isWithin(from, n, l) {
			return e, l, false
		}
		return e, moved(l, to, l, from, n), true
	}
	row := s.row(s.next(2 * len(l)))
	e, _ := o.init(to, from, n, row)
	if !isWithin(to, n, l) || !isWithin(from, n, row) {
		return e, l, false
	}
	return e, moved(l, to, row, from, n), true
}

// P13.5: one thing after the other; what fails changes nothing.
func TestManySteps(t *testing.T) {
	s := sequence(1)
	for size := range 60 {
		l := s.row(size + 1)
		for _, o := range objects(l...) {
			now, done, failed := l, 0, 0
			for range 300 {
				e, then, ok := s.step(o, now)
				if ok {
					done++
					checkIs(t, "a step", e, api.OK)
				} else {
					failed++
					checkIs(t, "a step", e, o.trap())
				}
				checkElements(t, "a step", o, then)
				now = then
			}
			if done < 40 || failed < 20 {
				t.Error("only", done, "steps are done and", failed, "fail")
			}
		}
	}
}

// P13.5: a range that is copied elsewhere and back is restored, whatever became of it, if the two do not overlap.
func TestThereAndBack(t *testing.T) {
	for size := range 12 {
		l := make([]int, size)
		for i := range l {
			l[i] = i + 1
		}
		for n := range size/2 + 1 {
			for from := range size - n + 1 {
				for to := range size - n + 1 {
					if to < from+n && from < to+n {
						continue
					}
					for _, o := range objects(l...) {
						checkIs(t, "there", o.copy(uint64(to), uint64(from), uint64(n)), api.OK)
						checkIs(t, "what was there", o.fill(uint64(from), 99, uint64(n)), api.OK)
						checkIs(t, "back", o.copy(uint64(from), uint64(to), uint64(n)), api.OK)
						checkElements(t, "there and back", o, moved(l, uint64(to), l, uint64(from), uint64(n)))
					}
				}
			}
		}
	}
}

// P13.5: what is written to a memory is read back, and nothing else is changed.
func TestWrittenIsRead(t *testing.T) {
	s := sequence(2)
	m := &store.Mem{}
	m.Grow(2, 2)
	model := make([]byte, 2*65536)
	for range 300 {
		at, size := s.next(2*65536), s.next(200)
		b := mapped(s.row(size), toByte)
		if e := m.Write(uint64(at), b); at+size > 2*65536 {
			checkIs(t, "Write", e, api.TrapMemory)
			continue
		}
		copy(model[at:], b)
		got, e := m.Read(uint64(at), size)
		checkIs(t, "Read", e, api.OK)
		if !slices.Equal(got, b) {
			t.Error("Read gives", got, "and not", b)
		}
	}
	if all, e := m.Read(0, 2*65536); e != api.OK || !slices.Equal(all, model) {
		t.Error("other bytes", e)
	}
}

// P13.5: what is set in a table is got back, of any type, and nothing else is changed.
func TestSetIsGot(t *testing.T) {
	s := sequence(3)
	o := &store.Table{}
	o.Grow(10000, value(0))
	model := make([]int, 10000)
	for range 3000 {
		i, x := s.next(10000), s.next(100)
		model[i] = x
		checkIs(t, "Set", o.Set(uint64(i), value(x)), api.OK)
		if v, e := o.Get(uint64(i)); e != api.OK || v != value(x) {
			t.Error("Get gives", v, e)
		}
	}
	if !slices.Equal(o.L, values(model...)) {
		t.Error("other elements")
	}
}
