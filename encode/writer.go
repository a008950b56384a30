package encode

import (
	"bodkin/leb"
)

// writer collects bytes. What it is given has been examined: it writes all of it.
type writer struct {
	out []byte
}

// bytes writes bytes that are given as numbers.
func (w *writer) bytes(l ...int) {
	for _, n := range l {
		w.out = append(w.out, byte(n))
	}
}

// u writes a number.
func (w *writer) u(n int) {
	// Behind the bytes there are, leb would copy all of them anew.
	w.out = append(w.out, leb.U(nil, uint64(n))...)
}

// s writes a number of either sign.
func (w *writer) s(n int64) {
	w.out = append(w.out, leb.S(nil, n)...)
}

// name writes a name.
func (w *writer) name(s string) {
	w.out = append(w.out, leb.Name(nil, s)...)
}

// little writes the lowest bytes of a number, the lowest one first.
func (w *writer) little(size int, n uint64) {
	for range size {
		w.out = append(w.out, byte(n))
		n >>= 8
	}
}

// list writes how many elements a list has, and each of them.
func list[T any](w *writer, l []T, one func(T)) {
	w.u(len(l))
	for _, x := range l {
		one(x)
	}
}

// sized writes how many bytes some content has, and the content.
func (w *writer) sized(content func()) {
	before := w.out
	w.out = nil
	content()
	written := w.out
	w.out = before
	w.u(len(written))
	w.out = append(w.out, written...)
}

// section writes a section.
func (w *writer) section(number int, content func()) {
	w.bytes(number)
	w.sized(content)
}

// listSection writes a section that is a list, if the list has elements.
func listSection[T any](w *writer, number int, l []T, one func(T)) {
	if len(l) == 0 {
		return
	}
	w.section(number, func() { list(w, l, one) })
}
