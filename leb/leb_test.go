package leb_test

import (
	"bytes"
	"math"
	"strconv"
	"strings"
	"testing"

	"bodkin/api"
	"bodkin/leb"
)

// P1.1: writing.

func TestWriteUnsigned(t *testing.T) {
	for _, c := range []struct {
		n    uint64
		want []byte
	}{
		{0, []byte{0}},
		{1, []byte{1}},
		{63, []byte{63}},
		{64, []byte{64}},
		{127, []byte{127}},
		{128, []byte{128, 1}},
		{624485, []byte{229, 142, 38}},
		{1<<14 - 1, []byte{255, 127}},
		{1 << 14, []byte{128, 128, 1}},
		{1<<32 - 1, []byte{255, 255, 255, 255, 15}},
		{1<<63 - 1, []byte{255, 255, 255, 255, 255, 255, 255, 255, 127}},
		{1 << 63, []byte{128, 128, 128, 128, 128, 128, 128, 128, 128, 1}},
		{math.MaxUint64, []byte{255, 255, 255, 255, 255, 255, 255, 255, 255, 1}},
	} {
		same(t, "U of "+strconv.FormatUint(c.n, 10), leb.U(nil, c.n), c.want)
		same(t, "U behind bytes", leb.U([]byte{9, 200}, c.n), append([]byte{9, 200}, c.want...))
	}
}

func TestWriteSigned(t *testing.T) {
	for _, c := range []struct {
		n    int64
		want []byte
	}{
		{0, []byte{0}},
		{1, []byte{1}},
		{-1, []byte{127}},
		{63, []byte{63}},
		{64, []byte{192, 0}},
		{-64, []byte{64}},
		{-65, []byte{191, 127}},
		{127, []byte{255, 0}},
		{-128, []byte{128, 127}},
		{-123456, []byte{192, 187, 120}},
		{1<<13 - 1, []byte{255, 63}},
		{1 << 13, []byte{128, 192, 0}},
		{-1 << 13, []byte{128, 64}},
		{-1<<13 - 1, []byte{255, 191, 127}},
		{math.MaxInt64, []byte{255, 255, 255, 255, 255, 255, 255, 255, 255, 0}},
		{math.MinInt64, []byte{128, 128, 128, 128, 128, 128, 128, 128, 128, 127}},
	} {
		same(t, "S of "+strconv.FormatInt(c.n, 10), leb.S(nil, c.n), c.want)
		same(t, "S behind bytes", leb.S([]byte{9, 200}, c.n), append([]byte{9, 200}, c.want...))
	}
}

func TestWriteName(t *testing.T) {
	long := strings.Repeat("x", 300)
	for _, c := range []struct {
		s    string
		want string
	}{
		{long[:64], "\x40" + long[:64]},
		{long[:127], "\x7f" + long[:127]},
		{long[:128], "\x80\x01" + long[:128]},
		{"", "\x00"},
		{"ab", "\x02ab"},
		{"é", "\x02\xc3\xa9"},
		{"\xff", "\x01\xff"}, // writing does not ask for UTF-8
		{long, "\xac\x02" + long},
	} {
		same(t, "Name", leb.Name(nil, c.s), []byte(c.want))
		same(t, "Name behind bytes", leb.Name([]byte{7}, c.s), []byte("\x07"+c.want))
	}
}

func TestWriteInNewMemory(t *testing.T) {
	write := map[string]func(b []byte) []byte{
		"U":    func(b []byte) []byte { return leb.U(b, 300) },
		"S":    func(b []byte) []byte { return leb.S(b, -300) },
		"Name": func(b []byte) []byte { return leb.Name(b, "ab") },
	}
	for name, f := range write {
		whole := []byte{1, 2, 3, 4, 5, 6, 7, 8, 9}
		out := f(whole[:2]) // with room behind it, which is not the call's
		for i := range out {
			out[i] = 77
		}
		same(t, name+" leaves what it is given", whole, []byte{1, 2, 3, 4, 5, 6, 7, 8, 9})
	}
}

// P1.2: UTF-8.

// encode writes a code point by UTF-8's rule in so many bytes, whether it may be written so or not.
func encode(c, size int) string {
	if size == 1 {
		return string([]byte{byte(c)})
	}
	b := make([]byte, size)
	for i := size - 1; i > 0; i-- {
		b[i] = 0x80 | byte(c&0x3f)
		c >>= 6
	}
	lead := 0xf00 >> size
	b[0] = byte(lead) | byte(c)
	return string(b)
}

func shortest(c int) int {
	switch {
	case c < 0x80:
		return 1
	case c < 0x800:
		return 2
	case c < 0x10000:
		return 3
	}
	return 4
}

func TestValidCodePoints(t *testing.T) {
	for c := 0; c < 1<<21; c++ {
		size := shortest(c)
		want := c <= 1114111 && (c < 55296 || c > 57343)
		if s := encode(c, size); leb.Valid(s) != want || leb.Valid("a"+s+"é") != want {
			t.Fatal(c, "in", size, "bytes: not", want)
		}
		for size++; size <= 4; size++ {
			if leb.Valid(encode(c, size)) {
				t.Fatal(c, "in", size, "bytes, too many, is valid")
			}
		}
	}
}

func TestValidTexts(t *testing.T) {
	for _, s := range []string{"", "abc", "\x00", "\x7f", "é", "\u07ff\u0800", "\uFFFD", "a\uFFFDb\uFFFD", "\uD7FF\uE000\uFFFF", "\U00010000\U0010FFFF", "\uFEFF"} {
		if !leb.Valid(s) {
			t.Errorf("%q is not valid", s)
		}
	}
	for _, s := range []string{
		"\x80", "\xbf", "\xff", "\xfe", "\xc0\x80", "\xc1\xbf", "\xe0\x9f\xbf", "\xf0\x8f\xbf\xbf",
		"\xed\xa0\x80", "\xed\xbf\xbf", "\xf4\x90\x80\x80", "\xf5\x80\x80\x80", "\xf8\x88\x80\x80\x80",
		"\xc3", "\xe2\x82", "\xf0\x9f\x98", "ab\xc3", "\xc3(", "\xe2(\xa1", "\xe2\x82(", "\xf0\x9f(\x80",
		"\uFFFD\xff", "\xff\uFFFD", "\xef\xbf", "é\xa9", "\xed\xa0\xbd\xed\xb8\x80",
	} {
		if leb.Valid(s) {
			t.Errorf("%q is valid", s)
		}
	}
}

// P1.3: reading.

func TestReadBytes(t *testing.T) {
	r := leb.Read([]byte{0, 255, 7})
	for i, want := range []byte{0, 255, 7} {
		if r.Left() != 3-i {
			t.Error("left:", r.Left())
		}
		if b := r.Byte(); b != want {
			t.Error("byte", i, "is", b)
		}
	}
	state(t, "at the end", r, 0, api.OK)
	if b := r.Byte(); b != 0 {
		t.Error("behind the end:", b)
	}
	state(t, "behind the end", r, 0, api.ErrShort)
	state(t, "of nothing", leb.Read(nil), 0, api.OK)
}

func TestReadKeepsItsBytes(t *testing.T) {
	b := []byte{1, 2, 3}
	r := leb.Read(b)
	b[0], b[1], b[2] = 9, 9, 9
	if r.Byte() != 1 || r.U(8) != 2 || r.Take(1)[0] != 3 {
		t.Error("a reader reads what its caller wrote later")
	}
	same(t, "what is handed in", b, []byte{9, 9, 9})
}

func TestReadNumbers(t *testing.T) {
	for _, c := range []struct {
		b    []byte
		bits int
		want uint64
		left int
		e    api.Errno
	}{
		{[]byte{229, 142, 38}, 32, 624485, 0, api.OK},
		{[]byte{128, 0}, 32, 0, 0, api.OK},
		{[]byte{128, 0, 5}, 8, 0, 1, api.OK},
		{[]byte{128, 0}, 7, 0, 0, api.ErrLong},
		{[]byte{131, 16}, 8, 0, 0, api.ErrLong},
		{[]byte{131, 1}, 8, 131, 0, api.OK},
		{[]byte{255, 1}, 8, 255, 0, api.OK},
		{[]byte{128, 2}, 8, 0, 0, api.ErrLong},
		{[]byte{1}, 1, 1, 0, api.OK},
		{[]byte{2}, 1, 0, 0, api.ErrLong},
		{[]byte{127}, 7, 127, 0, api.OK},
		{[]byte{64}, 6, 0, 0, api.ErrLong},
		{nil, 32, 0, 0, api.ErrShort},
		{[]byte{128}, 32, 0, 0, api.ErrShort},
		{[]byte{128}, 8, 0, 0, api.ErrShort},
		{[]byte{128}, 7, 0, 0, api.ErrLong},
		{[]byte{128, 128, 128, 128}, 32, 0, 0, api.ErrShort},
		{[]byte{128, 128, 128, 128, 128}, 32, 0, 0, api.ErrLong},
		{[]byte{255, 255, 255, 255, 15}, 32, 1<<32 - 1, 0, api.OK},
		{[]byte{255, 255, 255, 255, 16}, 32, 0, 0, api.ErrLong},
		{[]byte{255, 255, 255, 255, 255, 255, 255, 255, 255, 1}, 64, math.MaxUint64, 0, api.OK},
		{[]byte{128, 128, 128, 128, 128, 128, 128, 128, 128, 2}, 64, 0, 0, api.ErrLong},
		{[]byte{1}, 0, 0, 0, api.ErrArg},
		{[]byte{1}, -1, 0, 0, api.ErrArg},
		{[]byte{1}, 65, 0, 0, api.ErrArg},
		{nil, 0, 0, 0, api.ErrArg},
		{[]byte{1}, math.MaxInt, 0, 0, api.ErrArg},
		{[]byte{1}, math.MinInt, 0, 0, api.ErrArg},
	} {
		r := leb.Read(c.b)
		what := "U(" + strconv.Itoa(c.bits) + ") of " + spell(c.b)
		if n := r.U(c.bits); n != c.want {
			t.Error(what, "is", n)
		}
		state(t, what, r, c.left, c.e)
	}
}

func TestReadSignedNumbers(t *testing.T) {
	for _, c := range []struct {
		b    []byte
		bits int
		want int64
		left int
		e    api.Errno
	}{
		{[]byte{192, 187, 120}, 32, -123456, 0, api.OK},
		{[]byte{127}, 7, -1, 0, api.OK},
		{[]byte{127, 1}, 64, -1, 1, api.OK},
		{[]byte{128, 127}, 8, -128, 0, api.OK},
		{[]byte{255, 0}, 8, 127, 0, api.OK},
		{[]byte{128, 1}, 8, 0, 0, api.ErrLong},
		{[]byte{255, 126}, 8, 0, 0, api.ErrLong},
		{[]byte{128, 64}, 8, 0, 0, api.ErrLong},
		{[]byte{0}, 1, 0, 0, api.OK},
		{[]byte{127}, 1, -1, 0, api.OK},
		{[]byte{1}, 1, 0, 0, api.ErrLong},
		{[]byte{126}, 1, 0, 0, api.ErrLong},
		{[]byte{63}, 7, 63, 0, api.OK},
		{[]byte{64}, 7, -64, 0, api.OK},
		{[]byte{255, 127}, 7, 0, 0, api.ErrLong},
		{[]byte{128}, 8, 0, 0, api.ErrShort},
		{nil, 33, 0, 0, api.ErrShort},
		{[]byte{255, 255, 255, 255, 7}, 32, math.MaxInt32, 0, api.OK},
		{[]byte{128, 128, 128, 128, 120}, 32, math.MinInt32, 0, api.OK},
		{[]byte{128, 128, 128, 128, 8}, 32, 0, 0, api.ErrLong},
		{[]byte{255, 255, 255, 255, 119}, 32, 0, 0, api.ErrLong},
		{[]byte{128, 128, 128, 128, 112}, 33, -1 << 32, 0, api.OK},
		{[]byte{255, 255, 255, 255, 255, 255, 255, 255, 255, 0}, 64, math.MaxInt64, 0, api.OK},
		{[]byte{128, 128, 128, 128, 128, 128, 128, 128, 128, 127}, 64, math.MinInt64, 0, api.OK},
		{[]byte{128, 128, 128, 128, 128, 128, 128, 128, 128, 1}, 64, 0, 0, api.ErrLong},
		{[]byte{128, 128, 128, 128, 128, 128, 128, 128, 128, 128, 0}, 64, 0, 0, api.ErrLong},
		{[]byte{1}, 0, 0, 0, api.ErrArg},
		{[]byte{1}, 65, 0, 0, api.ErrArg},
		{[]byte{1}, math.MinInt, 0, 0, api.ErrArg},
		{nil, -7, 0, 0, api.ErrArg},
	} {
		r := leb.Read(c.b)
		what := "S(" + strconv.Itoa(c.bits) + ") of " + spell(c.b)
		if n := r.S(c.bits); n != c.want {
			t.Error(what, "is", n)
		}
		state(t, what, r, c.left, c.e)
	}
}

// number is what bytes hold, told bit by bit: 80 bits are more than any type here has.
func number(b []byte, bits int, signed bool) (n uint64, size int, e api.Errno) {
	var all [80]bool
	for {
		if size == len(b) {
			return 0, 0, api.ErrShort
		}
		c := b[size]
		for i := range 7 {
			all[7*size+i] = c>>i&1 == 1
		}
		size++
		if c < 128 {
			break
		}
		if size == (bits+6)/7 {
			return 0, 0, api.ErrLong
		}
	}
	sign := signed && all[7*size-1]
	for i := 7 * size; i < len(all); i++ {
		all[i] = sign
	}
	first := bits
	if signed {
		first--
	}
	for i, set := range all {
		if i >= first && set != sign {
			return 0, 0, api.ErrLong
		}
		if i < 64 && set {
			n |= 1 << i
		}
	}
	return n, size, api.OK
}

func checkNumber(t *testing.T, b []byte, bits int) {
	t.Helper()
	for _, signed := range []bool{false, true} {
		want, size, e := number(b, bits, signed)
		left := len(b) - size
		if e != api.OK {
			left = 0
		}
		r := leb.Read(b)
		var got uint64
		if signed {
			got = uint64(r.S(bits))
		} else {
			got = r.U(bits)
		}
		if got != want || r.Err() != e || r.Left() != left {
			t.Fatal(spell(b), "of bits", bits, "signed", signed, "is", got, r.Err(), r.Left(), "not", want, e, left)
		}
	}
}

func TestReadAllShortNumbers(t *testing.T) {
	for bits := 1; bits <= 64; bits++ {
		for a := range 256 {
			checkNumber(t, []byte{byte(a)}, bits)
			if bits <= 22 {
				for b := range 256 {
					checkNumber(t, []byte{byte(a), byte(b)}, bits)
				}
			}
		}
	}
}

func TestReadLongNumbers(t *testing.T) {
	for bits := 1; bits <= 64; bits++ {
		for size := 0; size <= 11; size++ {
			for _, fill := range []byte{128, 255, 129, 192, 191, 213} {
				b := bytes.Repeat([]byte{fill}, size)
				checkNumber(t, b, bits)
				for last := range 256 {
					checkNumber(t, append(b[:size:size], byte(last), 77), bits)
				}
			}
		}
	}
}

func TestReadTake(t *testing.T) {
	b := []byte{1, 2, 3, 4}
	r := leb.Read(b)
	same(t, "nothing", r.Take(0), nil)
	first := r.Take(2)
	same(t, "two", first, []byte{1, 2})
	first[0], first[1] = 9, 9
	_ = append(first[:1], 9, 9, 9)
	state(t, "two", r, 2, api.OK)
	same(t, "the rest", r.Take(2), []byte{3, 4})
	same(t, "what is handed in", b, []byte{1, 2, 3, 4})
	same(t, "nothing, at the end", r.Take(0), nil)
	state(t, "nothing, at the end", r, 0, api.OK)

	for _, c := range []struct {
		n int
		e api.Errno
	}{{5, api.ErrShort}, {math.MaxInt, api.ErrShort}, {-1, api.ErrArg}, {math.MinInt, api.ErrArg}} {
		r := leb.Read(b)
		same(t, "too many", r.Take(c.n), nil)
		state(t, "Take of "+strconv.Itoa(c.n), r, 0, c.e)
	}
}

func TestReadName(t *testing.T) {
	long := strings.Repeat("é", 100)
	for _, c := range []struct {
		b    string
		want string
		left int
		e    api.Errno
	}{
		{"\x00", "", 0, api.OK},
		{"\x02ab", "ab", 0, api.OK},
		{"\x02abc", "ab", 1, api.OK},
		{"\x82\x00ab", "ab", 0, api.OK},
		{"\x03\xef\xbf\xbd", "\uFFFD", 0, api.OK},
		{"\xc8\x01" + long, long, 0, api.OK},
		{"", "", 0, api.ErrShort},
		{"\x80", "", 0, api.ErrShort},
		{"\x03ab", "", 0, api.ErrShort},
		{"\x03\xff\xff", "", 0, api.ErrShort},
		{"\xff\xff\xff\xff\x0fab", "", 0, api.ErrShort},
		{"\xff\xff\xff\xff\x10ab", "", 0, api.ErrLong},
		{"\x80\x80\x80\x80\x80\x00", "", 0, api.ErrLong},
		{"\x01\xff", "", 0, api.ErrUtf},
		{"\x01\xc3\xa9", "", 0, api.ErrUtf},
		{"\x03\xed\xa0\x80ab", "", 0, api.ErrUtf},
		{"\x02\xc0\x80", "", 0, api.ErrUtf},
	} {
		r := leb.Read([]byte(c.b))
		if s := r.Name(); s != c.want {
			t.Errorf("name of %q is %q", c.b, s)
		}
		state(t, strconv.Quote(c.b), r, c.left, c.e)
	}
}

// P1.4: errors of a reader.

// silent checks that a reader gives nothing, whatever it is asked for, and keeps its error.
func silent(t *testing.T, what string, r *leb.Reader, e api.Errno) {
	t.Helper()
	for range 2 {
		state(t, what, r, 0, e)
		if n := r.Byte(); n != 0 {
			t.Error(what, "byte", n)
		}
		for _, bits := range []int{0, 7, 32, 64, 65} {
			if n := r.U(bits); n != 0 {
				t.Error(what, "U", n)
			}
			if n := r.S(bits); n != 0 {
				t.Error(what, "S", n)
			}
		}
		for _, n := range []int{-1, 0, 1, math.MaxInt} {
			if b := r.Take(n); len(b) != 0 {
				t.Error(what, "take", b)
			}
		}
		if s := r.Name(); s != "" {
			t.Error(what, "name", s)
		}
		r.Fail(api.ErrForm)
		r.Fail(api.OK)
	}
	state(t, what, r, 0, e)
}

func TestFirstErrorStays(t *testing.T) {
	for _, c := range []struct {
		what string
		call func(r *leb.Reader)
		e    api.Errno
	}{
		{"take too many", func(r *leb.Reader) { r.Take(9) }, api.ErrShort},
		{"take less than nothing", func(r *leb.Reader) { r.Take(-1) }, api.ErrArg},
		{"no bits", func(r *leb.Reader) { r.U(0) }, api.ErrArg},
		{"no signed bits", func(r *leb.Reader) { r.S(65) }, api.ErrArg},
		{"too long", func(r *leb.Reader) { r.U(7) }, api.ErrLong},
		{"too great", func(r *leb.Reader) { r.U(8) }, api.ErrLong},
		{"too great, signed", func(r *leb.Reader) { r.S(8) }, api.ErrLong},
		{"name", func(r *leb.Reader) { r.Byte(); r.Byte(); r.Name() }, api.ErrUtf},
		{"fail", func(r *leb.Reader) { r.Fail(api.ErrNest) }, api.ErrNest},
		{"fail twice", func(r *leb.Reader) { r.Fail(api.ErrUtf); r.Fail(api.ErrArg) }, api.ErrUtf},
		{"fail, then read", func(r *leb.Reader) { r.Fail(api.TrapNull); r.Take(-1) }, api.TrapNull},
	} {
		r := leb.Read([]byte{128, 4, 1, 255, 1, 2})
		c.call(r)
		silent(t, c.what, r, c.e)
	}
}

func TestFailWithNoError(t *testing.T) {
	r := leb.Read([]byte{5, 6})
	r.Fail(api.OK)
	state(t, "after Fail of OK", r, 2, api.OK)
	if n := r.U(32); n != 5 {
		t.Error("after Fail of OK:", n)
	}
}

func TestNilReader(t *testing.T) {
	var r *leb.Reader
	silent(t, "nil", r, api.ErrArg)
}

func TestReadersAreApart(t *testing.T) {
	b := []byte{1, 2}
	r, q := leb.Read(b), leb.Read(b)
	r.Fail(api.ErrForm)
	if n := q.Byte(); n != 1 || q.Left() != 1 || q.Err() != api.OK {
		t.Error("one reader's error is another's")
	}
}

// P1.5: what follows.

// edges are numbers around the powers of 2.
func edges() []uint64 {
	out := []uint64{0, 624485, 0x5555555555555555, 0xaaaaaaaaaaaaaaaa, 0x123456789abcdef0}
	for i := range 64 {
		out = append(out, 1<<i-1, 1<<i, 1<<i+1, -(1 << i), -(1<<i)-1)
	}
	return out
}

// unsignedBits is how many bits a number needs, at least 1.
func unsignedBits(n uint64) int {
	bits := 1
	for bits < 64 && n>>bits != 0 {
		bits++
	}
	return bits
}

// signedBits is how many bits a number of either sign needs, at least 1.
func signedBits(n int64) int {
	bits := 1
	for n>>(bits-1) != 0 && n>>(bits-1) != -1 {
		bits++
	}
	return bits
}

func TestWrittenIsReadBack(t *testing.T) {
	for _, n := range edges() {
		b := append(leb.U(nil, n), 42)
		for bits := 1; bits <= 64; bits++ {
			r := leb.Read(b)
			got := r.U(bits)
			if bits < unsignedBits(n) {
				state(t, "fewer bits than it needs", r, 0, api.ErrLong)
			} else if got != n || r.Left() != 1 {
				t.Error("U", n, "of bits", bits, "is read as", got)
			}
		}
		m := int64(n)
		b = append(leb.S(nil, m), 42)
		for bits := 1; bits <= 64; bits++ {
			r := leb.Read(b)
			got := r.S(bits)
			if bits < signedBits(m) {
				state(t, "fewer bits than it needs", r, 0, api.ErrLong)
			} else if got != m || r.Left() != 1 {
				t.Error("S", m, "of bits", bits, "is read as", got)
			}
		}
	}
}

func TestWrittenIsShortest(t *testing.T) {
	for _, n := range edges() {
		if got, want := len(leb.U(nil, n)), (unsignedBits(n)+6)/7; got != want {
			t.Error("U", n, "in", got, "bytes, not", want)
		}
		if got, want := len(leb.S(nil, int64(n))), (signedBits(int64(n))+6)/7; got != want {
			t.Error("S", int64(n), "in", got, "bytes, not", want)
		}
	}
}

// lengthen writes a number's bytes in so many more, of which each holds the sign.
func lengthen(b []byte, more int, sign byte) []byte {
	out := append([]byte{}, b...)
	for range more {
		out[len(out)-1] |= 128
		out = append(out, sign)
	}
	return out
}

func TestLongerThanNeeded(t *testing.T) {
	for _, n := range edges() {
		for more := 0; more <= 10; more++ {
			b := lengthen(leb.U(nil, n), more, 0)
			for _, bits := range []int{1, 7, 8, 32, 33, 64} {
				r := leb.Read(b)
				got := r.U(bits)
				if len(b) > (bits+6)/7 || bits < unsignedBits(n) {
					state(t, "too long", r, 0, api.ErrLong)
				} else if got != n || r.Err() != api.OK {
					t.Error(spell(b), "of bits", bits, "is", got, r.Err())
				}
			}
			sign := byte(0)
			if int64(n) < 0 {
				sign = 127
			}
			b = lengthen(leb.S(nil, int64(n)), more, sign)
			for _, bits := range []int{1, 7, 8, 32, 33, 64} {
				r := leb.Read(b)
				got := r.S(bits)
				if len(b) > (bits+6)/7 || bits < signedBits(int64(n)) {
					state(t, "too long", r, 0, api.ErrLong)
				} else if got != int64(n) || r.Err() != api.OK {
					t.Error(spell(b), "of bits", bits, "is", got, r.Err())
				}
			}
		}
	}
}

func TestReadMixed(t *testing.T) {
	b := leb.U(nil, 300)
	b = leb.Name(b, "añ")
	b = leb.S(b, -70000)
	b = append(b, 9, 8, 7)
	r := leb.Read(b)
	if n := r.U(16); n != 300 {
		t.Error(n)
	}
	if s := r.Name(); s != "añ" {
		t.Error(s)
	}
	if n := r.S(32); n != -70000 {
		t.Error(n)
	}
	if n := r.Byte(); n != 9 {
		t.Error(n)
	}
	same(t, "the rest", r.Take(2), []byte{8, 7})
	state(t, "at the end", r, 0, api.OK)
}

// same checks that two lists of bytes are equal.
func same(t *testing.T, what string, got, want []byte) {
	t.Helper()
	if !bytes.Equal(got, want) {
		t.Error(what, "is", spell(got), "not", spell(want))
	}
}

// state checks how many bytes a reader has left, and its error.
func state(t *testing.T, what string, r *leb.Reader, left int, e api.Errno) {
	t.Helper()
	if r.Left() != left || r.Err() != e {
		t.Error(what, "has", r.Left(), "left, and error", int(r.Err()), "not", left, int(e))
	}
}

// spell tells bytes.
func spell(b []byte) string {
	var out []string
	for _, c := range b {
		out = append(out, strconv.Itoa(int(c)))
	}
	return "[" + strings.Join(out, " ") + "]"
}
