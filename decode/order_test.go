package decode_test

import (
	"strconv"
	"strings"
	"testing"

	"bodkin/api"
)

// within is bytes of instructions within so many blocks, which do not end. Every third block is the body of an if, every fourth one its else.
func within(depth int, text string) string {
	var out strings.Builder
	for i := range depth {
		switch {
		case i%4 == 3:
			out.WriteString("\x04\x40\x05")
		case i%3 == 2:
			out.WriteString("\x01\x04\x7f")
		default:
			out.WriteString("\x01\x02\x00\x01\x0b\x03\x40")
		}
	}
	return out.String() + text
}

// ends is so many ends, and one more.
func ends(depth int) string { return strings.Repeat("\x0b", depth+1) }

// deepest is how many instructions an instruction may be nested in.
const deepest = api.MaxNest - 1

// P11.3: how deep instructions may be nested.
func TestDepth(t *testing.T) {
	for _, depth := range []int{0, 1, 2, 3, 10, deepest - 1, deepest} {
		for _, inner := range []string{"\x01", "\x41\x00\x01", "\xfc\x00", "\xfd\x0f", "\x02\x40\x0b", "\x04\x7f\x05\x0b", ""} {
			text := within(depth, inner) + ends(depth)
			l, e := modelCode(text)
			if e != api.OK {
				t.Error(depth, "is an error")
			}
			checkCode(t, "depth "+strconv.Itoa(depth), text, l, api.OK)
			for _, p := range placesOfCode(text, l) {
				checkModule(t, "depth "+strconv.Itoa(depth)+" in "+p.what, p.text, p.m, api.OK)
			}
		}
	}
	for _, depth := range []int{api.MaxNest, api.MaxNest + 1, 2 * api.MaxNest, 1 << 16} {
		for _, inner := range []string{"\x01", "\x02\x40\x0b", "\xfc\x00", "\xfd\xff\x01"} {
			noCode(t, "depth "+strconv.Itoa(depth), within(depth, inner)+ends(depth), api.ErrNest)
		}
	}
	text := within(api.MaxNest, "") + ends(api.MaxNest)
	l, _ := modelCode(text)
	checkCode(t, "as many blocks as may be, with nothing in them", text, l, api.OK)
	twice := text[:len(text)-1] + text
	l, _ = modelCode(twice)
	checkCode(t, "the same twice", twice, l, api.OK)
	noCode(t, "a deep one behind one that is not", text[:len(text)-1]+within(api.MaxNest, "\x01")+ends(api.MaxNest), api.ErrNest)
	noCode(t, "only blocks", strings.Repeat("\x02\x40", 1<<16), api.ErrNest)
	noCode(t, "only bodies of ifs", strings.Repeat("\x04\x40", 1<<16), api.ErrNest)
	noCode(t, "only elses", strings.Repeat("\x04\x40\x05", 1<<16), api.ErrNest)
}

// P11.3: which bytes begin an instruction that is nested too deep, and which are malformed.
func TestWhatBeginsAnInstruction(t *testing.T) {
	// The innermost of as many blocks as may be is a block, or an if without or with its else.
	for _, last := range []string{"\x02\x40", "\x04\x40", "\x04\x40\x05"} {
		start := within(deepest, last)
		for _, text := range []string{"\x00", "\x01", "\x02", "\x02\x41", "\x04\x40\x05", "\x0c", "\x0c\x80\x80\x80\x80\x80", "\x1c\x01\x40", "\x3f\x01", "\x41", "\x43\x00", "\xd0\x00", "\xfc\x00", "\xfc\x08", "\xfc\x0a\x01", "\xfc\x88\x80\x00", "\xfd\x00", "\xfd\x0d\x00", "\xfd\xff\x01", "\xfd\xff\x81\x80\x80\x00"} {
			noCode(t, "too deep", start+text, api.ErrNest)
			noCode(t, "too deep, and ended", start+text+ends(api.MaxNest+1), api.ErrNest)
			noCode(t, "too deep, ahead of what is malformed", start+text+"\xff\x05", api.ErrNest)
		}
		for _, text := range []string{"\x06", "\x07", "\x1d", "\x27", "\xc5", "\xd3", "\xfb", "\xfe", "\xff", "\xfc\x12", "\xfc\x80\x02", "\xfc\x8f\x02", "\xfc\xff\xff\xff\xff\x0f", "\xfc\x80\x80\x80\x80\x10", "\xfc\x80\x80\x80\x80\x80\x00", "\xfd\x9a\x01", "\xfd\x80\x02", "\xfd\x80\x80\x80\x80\x80\x00", "\xfd\xff\xff\xff\xff\x1f"} {
			noCode(t, "malformed", start+text, api.ErrForm)
			noCode(t, "malformed, and ended", start+text+ends(api.MaxNest+1), api.ErrForm)
			noCode(t, "malformed, ahead of what is too deep", start+text+within(api.MaxNest, "\x01"), api.ErrForm)
		}
		for _, text := range []string{"", "\xfc", "\xfd", "\xfc\x80", "\xfd\xff\x81"} {
			checkCode(t, "ends too early", start+text, nil, api.ErrForm)
		}
		if last != "\x04\x40" {
			noCode(t, "an else that may not be", start+"\x05", api.ErrForm)
		} else {
			checkCode(t, "an else that ends too early", start+"\x05", nil, api.ErrForm)
			noCode(t, "an else with something in it", start+"\x05\x01", api.ErrNest)
			noCode(t, "two elses", start+"\x05\x05", api.ErrForm)
		}
	}
	for _, text := range []string{"\x41", "\x71", "\x80\x80\x80\x80\x10", "\xc0\x7f"} {
		noCode(t, "the type of the last block that may be is malformed", within(deepest, "\x02"+text+"\x01"), api.ErrForm)
	}
	for _, text := range []string{"\x06", "\x0c\x80\x80\x80\x80\x80", "\x3f\x01", "\x05", "\x1c\x01\x40", "\xd0\x00", "\xfc\x0a\x01"} {
		noCode(t, "malformed as deep as may be", within(deepest, text+"\x02\x40\x01"), api.ErrForm)
		noCode(t, "malformed ahead of what is too deep", text+within(api.MaxNest, "\x01"), api.ErrForm)
		noCode(t, "malformed behind what is deep", within(deepest, "\x01"+strings.Repeat("\x0b", deepest)+text), api.ErrForm)
	}
}

// tooDeep is instructions that are nested too deep and malformed behind that.
func tooDeep() string { return within(api.MaxNest, "\x01\xff") + ends(api.MaxNest) }

// deepData is a section of bytes with an offset that is nested too deep.
func deepData() string { return sectionOf(11, "\x01\x00"+tooDeep()+"\x00") }

// malformedOrTooDeep checks which of the two errors comes first.
func malformedOrTooDeep(t *testing.T, what, text string, want api.Errno) {
	t.Helper()
	checkModule(t, what, header+text, api.Module{}, want)
}

// P11.3: what is malformed by its length, and what is nested too deep within it.
func TestLengthsAndDepth(t *testing.T) {
	deep := tooDeep()
	global := "\x01\x7f\x00" + deep
	size := len(global)
	malformedOrTooDeep(t, "a section", "\x06"+writtenU(size)+global, api.ErrNest)
	malformedOrTooDeep(t, "a section that is longer than the input", "\x06"+writtenU(size+1)+global, api.ErrForm)
	malformedOrTooDeep(t, "a section that is far longer", "\x06"+writtenU(1<<32-1)+global, api.ErrForm)
	malformedOrTooDeep(t, "a section with something left", "\x06"+writtenU(size+1)+global+"\x00", api.ErrNest)
	malformedOrTooDeep(t, "a section that ends too early, but behind the place", "\x06"+writtenU(size-1)+global, api.ErrNest)
	at := len("\x01\x7f\x00" + within(api.MaxNest, ""))
	malformedOrTooDeep(t, "a section that ends just behind the place", "\x06"+writtenU(at+1)+global, api.ErrNest)
	malformedOrTooDeep(t, "a section that ends at the place", "\x06"+writtenU(at)+global, api.ErrForm)
	malformedOrTooDeep(t, "a section of the same length as the input's rest, in a number that is too long", "\x06"+padded(int64(size), 6)+global, api.ErrForm)

	body := "\x00" + deep
	size = len(body)
	at = len("\x00" + within(api.MaxNest, ""))
	types := sectionOf(3, "\x01\x00")
	malformedOrTooDeep(t, "a function", types+sectionOf(10, "\x01"+writtenU(size)+body), api.ErrNest)
	malformedOrTooDeep(t, "a function that is longer than its section", types+sectionOf(10, "\x01"+writtenU(size+1)+body), api.ErrForm)
	malformedOrTooDeep(t, "a function that is longer than its section, but not than the input", types+sectionOf(10, "\x01"+writtenU(size+1)+body)+"\x00\x01\x00", api.ErrForm)
	malformedOrTooDeep(t, "a function that is far longer", types+sectionOf(10, "\x01"+writtenU(1<<32-1)+body), api.ErrForm)
	malformedOrTooDeep(t, "a function with something left", types+sectionOf(10, "\x01"+writtenU(size+1)+body+"\x00"), api.ErrNest)
	malformedOrTooDeep(t, "a function that ends just behind the place", types+sectionOf(10, "\x01"+writtenU(at+1)+body), api.ErrNest)
	malformedOrTooDeep(t, "a function that ends at the place", types+sectionOf(10, "\x01"+writtenU(at)+body), api.ErrForm)
	malformedOrTooDeep(t, "a function ahead of one that is malformed", types+sectionOf(10, "\x02"+writtenU(size)+body+"\x05"), api.ErrNest)
	malformedOrTooDeep(t, "a function behind one that is malformed", types+sectionOf(10, "\x02\x02\x00\x01"+writtenU(size)+body), api.ErrForm)
	malformedOrTooDeep(t, "a function behind one with something left", types+sectionOf(10, "\x02\x03\x00\x0b\x0b"+writtenU(size)+body), api.ErrForm)
	malformedOrTooDeep(t, "a function with too many locals", types+sectionOf(10, "\x01"+sized("\x01\xd1\x86\x03\x7f"+deep)), api.ErrForm)
	malformedOrTooDeep(t, "a function with as many locals as may be", types+sectionOf(10, "\x01"+sized("\x01\xd0\x86\x03\x7f"+deep)), api.ErrNest)
}

// P11.3: what is malformed ahead of what is nested too deep, and behind it.
func TestWhatComesFirst(t *testing.T) {
	deep := tooDeep()
	bad := "\x05\x01\x07"
	for _, c := range []struct {
		what string
		text string
	}{
		{"globals", sectionOf(6, "\x01\x7f\x00"+deep)},
		{"an offset in a table", sectionOf(9, "\x01\x00"+deep+"\x00")},
		{"an offset in a table ahead of a wrong kind", sectionOf(9, "\x01\x02\x00"+deep+"\x07\x00")},
		{"an init", sectionOf(9, "\x01\x05\x70\x01"+deep)},
		{"an offset in a memory", sectionOf(11, "\x01\x00"+deep+"\x00")},
		{"far fewer globals than their number", sectionOf(6, "\xff\xff\xff\xff\x0f\x7f\x00"+deep)},
		{"far fewer functions than their number", sectionOf(10, "\xff\xff\xff\xff\x0f"+sized("\x00"+deep))},
		{"far fewer inits than their number", sectionOf(9, "\x01\x05\x70\xff\xff\xff\xff\x0f"+deep)},
		{"far fewer data than their number", sectionOf(11, "\xff\xff\xff\xff\x0f\x00"+deep)},
	} {
		malformedOrTooDeep(t, c.what, c.text, api.ErrNest)
		malformedOrTooDeep(t, c.what+" ahead of a wrong section", c.text+"\x0d\x01\x00", api.ErrNest)
		malformedOrTooDeep(t, c.what+" ahead of one that comes too late", c.text+bad, api.ErrNest)
		malformedOrTooDeep(t, c.what+" ahead of a wrong name", c.text+"\x00\x02\x01\xff", api.ErrNest)
		malformedOrTooDeep(t, c.what+" ahead of a length that is too great", c.text+"\x00\x7f", api.ErrNest)
		malformedOrTooDeep(t, c.what+" behind a wrong section", "\x0d\x01\x00"+c.text, api.ErrForm)
		malformedOrTooDeep(t, c.what+" behind a wrong name", "\x00\x02\x01\xff"+c.text, api.ErrForm)
		malformedOrTooDeep(t, c.what+" behind wrong limits", "\x05\x03\x01\x02\x00"+c.text, api.ErrForm)
		malformedOrTooDeep(t, c.what+" behind a section with something left", "\x05\x02\x00\x00"+c.text, api.ErrForm)
		malformedOrTooDeep(t, c.what+" too late", sectionOf(11, "\x00")+c.text, api.ErrForm)
		checkModule(t, c.what+" behind a wrong header", "\x00asm\x02\x00\x00\x00"+c.text, api.Module{}, api.ErrForm)
	}
	malformedOrTooDeep(t, "behind a wrong global", sectionOf(6, "\x02\x7f\x02\x0b\x7f\x00"+deep), api.ErrForm)
	malformedOrTooDeep(t, "ahead of a wrong global", sectionOf(6, "\x02\x7f\x00"+deep+"\x7f\x02\x0b"), api.ErrNest)
	malformedOrTooDeep(t, "behind a wrong kind", sectionOf(9, "\x01\x05\x7f\x01"+deep), api.ErrForm)
	malformedOrTooDeep(t, "behind a wrong number of a segment", sectionOf(9, "\x01\x08"+deep+"\x00"), api.ErrForm)
	malformedOrTooDeep(t, "behind a wrong number of a segment of bytes", sectionOf(11, "\x01\x03"+deep+"\x00"), api.ErrForm)
}

// P11.3: what two sections tell, and the count that is missing, come after everything else.
func TestConditionsComeLast(t *testing.T) {
	deep, deepData := tooDeep(), deepData()
	for _, c := range []struct {
		what string
		text string
	}{
		{"functions without bodies", sectionOf(3, "\x01\x00")},
		{"bodies without functions", sectionOf(10, "\x01\x02\x00\x0b")},
		{"fewer functions than bodies", sectionOf(3, "\x01\x00") + sectionOf(10, "\x02\x02\x00\x0b\x02\x00\x0b")},
		{"a count that does not fit", sectionOf(12, "\x05")},
		{"a segment of bytes without a count", sectionOf(3, "\x01\x00") + sectionOf(10, "\x01\x05\x00\xfc\x09\x00\x0b")},
		{"all of them", sectionOf(3, "\x01\x00") + sectionOf(12, "\x05") + sectionOf(10, "\x02\x05\x00\xfc\x09\x00\x0b\x02\x00\x0b")},
	} {
		malformedOrTooDeep(t, c.what, c.text, api.ErrForm)
		malformedOrTooDeep(t, c.what+", and too deep", c.text+deepData, api.ErrNest)
		malformedOrTooDeep(t, c.what+", too deep, and malformed", c.text+deepData+"\xff", api.ErrNest)
		malformedOrTooDeep(t, c.what+", malformed, and too deep", c.text+"\x00\x00"+deepData, api.ErrForm)
	}
	malformedOrTooDeep(t, "too deep in a body more than there are functions", sectionOf(3, "\x01\x00")+sectionOf(10, "\x02\x02\x00\x0b"+sized("\x00"+deep)), api.ErrNest)
	malformedOrTooDeep(t, "too deep behind an instruction that asks for a count", sectionOf(3, "\x01\x00")+sectionOf(10, "\x01"+sized("\x00\xfc\x09\x00"+deep)), api.ErrNest)
	malformedOrTooDeep(t, "too deep in a segment more than the count", sectionOf(12, "\x00")+deepData, api.ErrNest)
}

// P11.3: deep instructions with a change, against the second working-out.
func TestChangedDepth(t *testing.T) {
	s := sequence(4)
	seen := map[api.Errno]int{}
	for range 800 {
		depth := deepest - 1 + s.next(3)
		text := within(depth, s.changed("\x01\x02\x40\x01\x0b\x41\x05\x1a\x04\x40\xfc\x00\x05\x01\x0b")) + ends(depth)
		seen[checkModelCode(t, "deep", text)]++
		for _, p := range placesOfCode(text, nil)[:2] {
			checkModelModule(t, "deep in "+p.what, p.text)
		}
	}
	if seen[api.OK] < 100 || seen[api.ErrForm] < 100 || seen[api.ErrNest] < 100 {
		t.Error(seen)
	}
}
