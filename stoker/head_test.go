package stoker_test

import (
	"slices"
	"strings"
	"testing"

	"stoker/api"
	"stoker/stoker"
)

// The module of the document's examples.
const sum = "53544b01 01 02 7f7f 01 7f 01 00 00 00 07 00 2000 2001 6a 0b"

func TestExamples(t *testing.T) {
	good(t, unhex(sum))
	wants(t, unhex(strings.Replace(sum, "6a", "7c", 1)), api.ErrType, 20)
	wants(t, unhex(sum+"00"), api.ErrForm, 22)
	wants(t, unhex(strings.Replace(sum, "2001", "2002", 1)), api.ErrForm, 19)
	wants(t, unhex(strings.Replace(sum, "07 00 20", "8700 00 20", 1)), api.ErrForm, 14)
}

func TestLongest(t *testing.T) {
	// 13 bytes stand ahead of the body, of which the locals' number and END are no NOP.
	longest := raw(":", "00"+strings.Repeat("01", 2000-13-2)+"0b")
	if len(longest) != api.MaxBytes {
		t.Fatalf("%d bytes", len(longest))
	}
	good(t, longest)
	wants(t, append(longest, 0x0b), api.ErrLong, 0)
	wants(t, raw(":", "00"+strings.Repeat("01", 2001-13-2)+"0b"), api.ErrLong, 0)
	wants(t, make([]byte, 2000), api.ErrForm, 0)
	wants(t, make([]byte, 2001), api.ErrLong, 0)
	wants(t, make([]byte, 1<<20), api.ErrLong, 0)
}

func TestMagic(t *testing.T) {
	empty := unhex("53544b01 00 00 00 00")
	good(t, empty)
	for at := range 4 {
		for c := range 256 {
			if broken := slices.Clone(empty); byte(c) != broken[at] {
				broken[at] = byte(c)
				wants(t, broken, api.ErrForm, at)
			}
		}
	}
	wants(t, nil, api.ErrForm, 0)
}

func TestMissingAheadOfBodies(t *testing.T) {
	whole := append(head("03 7f00 ffffffff07 7e01 8080808010 7f01 40", function{sig: ":"}, function{sig: "il:l"}), 0x02, 0x00, 0x0b, 0x80)
	for n := range len(whole) - 2 {
		at := n
		if size := len(whole) - 4; n > size {
			at = size // the body says that it has more bytes than there are
		}
		wants(t, whole[:n], api.ErrForm, at)
	}
	wants(t, whole[:len(whole)-1], api.ErrForm, len(whole)-1)
	wants(t, whole, api.ErrForm, len(whole))
}

const start = "53544b01 "

func TestBoundsAheadOfBodies(t *testing.T) {
	for _, digits := range []string{
		"10" + strings.Repeat("0000", 16) + "00 00 00",
		"01 08" + strings.Repeat("7f", 8) + "00 00 00 00",
		"01 00 01 7e 00 00 00",
		"01 0000 10" + strings.Repeat("00", 16) + "00 00" + strings.Repeat("02 00 0b", 16),
		"02 0000 0000 01 01 00 00 02 00 0b",
		"00 00 08" + strings.Repeat("7f0000", 8) + "00",
		"00 00 00 04",
	} {
		good(t, unhex(start+digits))
	}
	for _, c := range []struct {
		digits string
		at     int
	}{
		{"11" + strings.Repeat("0000", 17) + "00 00 00", 4},
		{"01 09" + strings.Repeat("7f", 9) + "00 00 00 00", 5},
		{"01 00 02 7e7e 00 00 00", 6},
		{"01 0000 11" + strings.Repeat("00", 17) + "00 00" + strings.Repeat("02 00 0b", 17), 7},
		{"02 0000 0000 01 02 00 00 02 00 0b", 10},
		{"00 01 00 00 00 02 00 0b", 6},
		{"00 00 09" + strings.Repeat("7f0000", 9) + "00", 6},
		{"00 00 00 05", 7},
		{"00 00 00 00 00", 8},
		{"00 00 00 00 ff ff", 8},
	} {
		wants(t, unhex(start+c.digits), api.ErrForm, c.at)
	}
}

func TestBytesAheadOfBodies(t *testing.T) {
	for c := range 256 {
		b := byte(c)
		kind := b == api.I32 || b == api.I64
		for _, v := range []struct {
			ahead string
			then  string
			ok    bool
		}{
			{"01 01", "00 00 00 00", kind},
			{"01 08 7f7f7f7f7f7f7f", "00 00 00 00", kind},
			{"01 00 01", "00 00 00", kind},
			{"00 00 01", "00 05 00", kind},
			{"00 00 01 7f", "05 00", b < 2},
			{"00 00 01 7e", "05 00", b < 2},
		} {
			ahead := unhex(start + v.ahead)
			data := slices.Concat(ahead, []byte{b}, unhex(v.then))
			if v.ok {
				good(t, data)
			} else {
				wants(t, data, api.ErrForm, len(ahead))
			}
		}
	}
}

// Forms of numbers that are refused wherever a U stands; place counts from the number's first byte.
var badU = []struct {
	digits string
	at     int
}{
	{"80 00", 0}, {"81 00", 0}, {"80 80 00", 0}, {"81 80 80 80 00", 0}, {"80 80 80 80 10", 0}, {"ff ff ff ff 1f", 0}, {"80 80 80 80 80", 0}, {"80 80 80 80 80 00", 0}, {"ff ff ff ff 0f", 0},
	{"80", 1}, {"80 80", 2}, {"80 80 80 80", 4},
}

func TestNumbersAheadOfBodies(t *testing.T) {
	for _, ahead := range []string{"", "01", "01 00", "01 01 7f", "00", "01 0000 01", "00 00", "00 00 00", "01 0000 01 00 00 00", "01 0000 02 0000 00 00 02 00 0b"} {
		for _, c := range badU {
			b := unhex(start + ahead)
			wants(t, append(b, unhex(c.digits)...), api.ErrForm, len(b)+c.at)
		}
	}
}

var nine = strings.Repeat("80", 9)

// Signed numbers; place as above, -1: it may stand there.
var signedForms = []struct {
	digits   string
	s32, s64 int
}{
	{"00", -1, -1}, {"3f", -1, -1}, {"40", -1, -1}, {"7f", -1, -1}, {"c000", -1, -1}, {"bf7f", -1, -1}, {"ffffffff07", -1, -1}, {"8080808078", -1, -1},
	{"8000", 0, 0}, {"bf00", 0, 0}, {"ff7f", 0, 0}, {"c07f", 0, 0}, {"80808000", 0, 0}, {"ffffff7f", 0, 0},
	{"8080808008", 0, -1}, {"ffffffff77", 0, -1}, {"ffffffff0f", 0, -1}, {"8080808070", 0, -1}, {"808080808001", 0, -1},
	{strings.Repeat("ff", 9) + "00", 0, -1}, {nine + "7f", 0, -1},
	{nine + "00", 0, 0}, {strings.Repeat("ff", 9) + "7f", 0, 0}, {nine + "01", 0, 0}, {strings.Repeat("ff", 9) + "7e", 0, 0}, {nine + "80", 0, 0}, {nine + "8000", 0, 0},
}

func TestValuesOfGlobals(t *testing.T) {
	check := func(typ, digits string, at int) {
		t.Helper()
		ahead := unhex(start + "00 00 01" + typ + "01")
		data := append(slices.Concat(ahead, unhex(digits)), 0)
		if at < 0 {
			good(t, data)
		} else {
			wants(t, data, api.ErrForm, len(ahead)+at)
		}
	}
	for _, c := range signedForms {
		check("7f", c.digits, c.s32)
		check("7e", c.digits, c.s64)
	}
	for _, c := range []struct {
		typ, digits string
		missing     int
	}{
		{"7f", "", 0}, {"7f", "80", 1}, {"7f", "80808080", 4}, {"7e", "", 0}, {"7e", "ff", 1}, {"7e", nine, 9},
	} {
		ahead := unhex(start + "00 00 01" + c.typ + "00")
		wants(t, append(slices.Clone(ahead), unhex(c.digits)...), api.ErrForm, len(ahead)+c.missing)
	}
}

func TestFuncsAndTypes(t *testing.T) {
	// Three types; five functions, of the types 2, 0, 1, 0 and 2.
	m := good(t, unhex(start+"03 00 01 7e  02 7e7f 00  08 7f7e7f7e7f7e7f7e 01 7f  05 02 00 01 00 02  00 00"+
		"03 00 00 0b"+"03 00 00 0b"+"02 00 0b"+"05 01 7e 2000 0b"+"03 00 00 0b"))
	sigs := []struct{ params, results string }{{"ilililil", "i"}, {"", "l"}, {"li", ""}, {"", "l"}, {"ilililil", "i"}}
	if m.Funcs() != len(sigs) {
		t.Fatalf("Funcs = %d, want %d", m.Funcs(), len(sigs))
	}
	for f, sig := range sigs {
		params, results, err := m.Type(f)
		if err != api.OK || !slices.Equal(params, typeBytes(sig.params)[1:]) || !slices.Equal(results, typeBytes(sig.results)[1:]) {
			t.Errorf("Type(%d) = %x, %x, %d, want %s, %s", f, params, results, err, sig.params, sig.results)
		}
	}
	noFunc(t, m, -1, len(sigs), 1<<62, -1<<63)
}

func noFunc(t *testing.T, m *stoker.Module, fs ...int) {
	t.Helper()
	for _, f := range fs {
		if params, results, err := m.Type(f); err != api.ErrFunc || len(params) != 0 || len(results) != 0 {
			t.Errorf("Type(%d) = %x, %x, %d, want ErrFunc", f, params, results, err)
		}
	}
}

func TestFuncsAtTheirBounds(t *testing.T) {
	none := good(t, unhex(start+"01 0000 00 00 00"))
	if none.Funcs() != 0 {
		t.Errorf("Funcs = %d, want 0", none.Funcs())
	}
	noFunc(t, none, 0, 1, -1)
	all := good(t, unhex(start+"01 0000 10"+strings.Repeat("00", 16)+"00 00"+strings.Repeat("02 00 0b", 16)))
	if all.Funcs() != api.MaxFuncs {
		t.Errorf("Funcs = %d, want 16", all.Funcs())
	}
	if _, _, err := all.Type(15); err != api.OK {
		t.Errorf("Type(15): %d", err)
	}
	noFunc(t, all, 16, 17, -1)
}
