package stoker_test

import (
	"encoding/hex"
	"strings"
	"testing"

	"stoker/api"
)

// shape is an instruction whose types are always the same: the digits behind its byte, and what it takes and gives.
type shape struct {
	op                   byte
	behind, takes, gives string
}

// shapes are written down by the document's table, with none of the program's own.
func shapes() []shape {
	out := []shape{
		{0x01, "", "", ""},
		{0x28, "00", "i", "i"}, {0x2c, "01", "i", "i"}, {0x2d, "ffffffff0f", "i", "i"}, {0x29, "8001", "i", "l"},
		{0x36, "00", "ii", ""}, {0x3a, "7f", "ii", ""}, {0x37, "ff7f", "il", ""},
		{0x3f, "", "", "i"}, {0x40, "", "i", "i"}, {0x41, "c000", "", "i"}, {0x42, "bf7f", "", "l"},
		{0x45, "", "i", "i"}, {0x50, "", "l", "i"},
		{0xa7, "", "l", "i"}, {0xac, "", "i", "l"}, {0xad, "", "i", "l"}, {0xe0, "", "l", "l"}, {0xe1, "", "ll", ""},
	}
	for n := range byte(10) {
		out = append(out, shape{0x46 + n, "", "ii", "i"}, shape{0x51 + n, "", "ll", "i"})
	}
	for n := range byte(3) {
		out = append(out, shape{0x67 + n, "", "i", "i"}, shape{0x79 + n, "", "l", "l"})
	}
	for n := range byte(15) {
		out = append(out, shape{0x6a + n, "", "ii", "i"}, shape{0x7c + n, "", "ll", "l"})
	}
	return out
}

const specials = "\x00\x02\x03\x04\x05\x0b\x0c\x0d\x0e\x0f\x10\x1a\x1b\x20\x21\x22\x23\x24"

func known(op byte) bool {
	for _, s := range shapes() {
		if s.op == op {
			return true
		}
	}
	return strings.IndexByte(specials, op) >= 0
}

func digits(op byte) string { return hex.EncodeToString([]byte{op}) }

// push is code that puts values of these types on the stack.
func push(types string) string {
	return strings.NewReplacer("i", "4101", "l", "4201").Replace(types)
}

func other(letter byte) string {
	if letter == 'i' {
		return "l"
	}
	return "i"
}

func TestPlainInstructions(t *testing.T) {
	for _, s := range shapes() {
		in := digits(s.op) + s.behind
		good(t, module("00", function{":" + s.gives, "", push(s.takes) + in}))
		// What it gives is of that type and no other, and there is no more of it.
		code := push(s.takes) + in
		for _, result := range []string{"", "i", "l"} {
			if result != s.gives {
				badCode(t, module("00", function{":" + result, "", code}), code, api.ErrType, len(code)/2)
			}
		}
		for n := range s.takes {
			code := push(s.takes[:n]+other(s.takes[n])+s.takes[n+1:]) + in
			badCode(t, module("00", function{":" + s.gives, "", code}), code, api.ErrType, 2*len(s.takes))
			code = push(s.takes[n+1:]) + in
			badCode(t, module("00", function{":" + s.gives, "", code}), code, api.ErrType, 2*(len(s.takes)-n-1))
			// The same ahead of a block is out of reach.
			code = push(s.takes[:n+1]) + "0240" + push(s.takes[n+1:]) + in + "0b"
			badCode(t, module("00", function{":", "", code}), code, api.ErrType, 2*len(s.takes)+2)
		}
	}
}

func TestUnknownInstructions(t *testing.T) {
	count := 0
	for c := range 256 {
		op := byte(c)
		if known(op) {
			count++
			continue
		}
		for _, ahead := range []string{"", "01", "4101", "00", "0c00", "0240"} {
			code := ahead + digits(op)
			badCode(t, module("00", function{":", "", code}), code, api.ErrForm, len(ahead)/2)
		}
	}
	if count != 93 {
		t.Errorf("%d instructions, want 93", count)
	}
}

// TestMissingBehind cuts bodies short within an instruction: with more modules' bytes behind, the body's end is what counts.
func TestMissingBehind(t *testing.T) {
	for _, cut := range []string{"", "28", "28 80", "2c", "2d ffffffff", "29", "36", "37", "3a", "41", "41 80", "41 ffffffff", "42", "42" + nine, "02", "03", "04", "0c", "0c 80", "0d", "0e", "0e 01", "0e 01 00", "0e 80", "10", "20", "21", "22", "23", "24", "0240", "0240 0b", "4101 0440 05"} {
		data := raw("i:", "00"+cut)
		wants(t, data, api.ErrForm, len(data))
		two := append(head("00", function{sig: "i:"}, function{sig: ":"}), sized(unhex("00"+cut))...)
		wants(t, append(two, 0x02, 0x00, 0x0b), api.ErrForm, len(two))
	}
}

// TestNumbersInCode: of an instruction the bytes are read first: the empty stack is not what is told.
func TestNumbersInCode(t *testing.T) {
	for _, op := range []string{"28", "29", "2c", "2d", "36", "37", "3a", "0c", "0d", "0e", "0e00", "0e01 00", "10", "20", "21", "22", "23", "24"} {
		for _, c := range badU {
			if c.digits == "ff ff ff ff 0f" && (op[0] == '2' && op[1] > '4' || op[0] == '3') {
				continue // an address may have that added
			}
			data := raw("i:", "00"+op+c.digits)
			wants(t, data, api.ErrForm, len(data)-len(unhex(c.digits))+c.at)
		}
	}
	check := func(result, op, digits string, at int) {
		t.Helper()
		code := op + digits
		data := module("00", function{":" + result, "", code})
		if at < 0 {
			good(t, data)
		} else {
			badCode(t, data, code, api.ErrForm, at+1)
		}
	}
	for _, c := range signedForms {
		check("i", "41", c.digits, c.s32)
		check("l", "42", c.digits, c.s64)
	}
}

func TestOfNothingThatThereIs(t *testing.T) {
	for _, c := range []struct {
		code string
		ok   bool
		off  int
	}{
		{"2001 1a", true, 0}, {"2002 1a", false, 1}, {"4101 2101", true, 0}, {"4101 2102", false, 3}, {"2102", false, 1}, {"4101 2201 1a", true, 0}, {"4101 2202 1a", false, 3}, {"2220", false, 1},
		{"2301 1a", true, 0}, {"2302 1a", false, 1}, {"4101 2401", true, 0}, {"4101 2402", false, 3}, {"2402", false, 1},
		{"4101 1000", true, 0}, {"1001", true, 0}, {"1002", false, 1}, {"1010", false, 1},
		{"0c00", true, 0}, {"0c01", false, 1}, {"0240 0c01 0b", true, 0}, {"0240 0c02 0b", false, 3}, {"4101 0d00", true, 0}, {"4101 0d01", false, 3}, {"0d01", false, 1},
		{"4101 0e00 00", true, 0}, {"4101 0e00 01", false, 4}, {"4101 0e01 00 01", false, 5}, {"4101 0e01 01 00", false, 4}, {"0e00 01", false, 2},
	} {
		data := lastOf(c.code)
		if c.ok {
			good(t, data)
		} else {
			badCode(t, data, c.code, api.ErrForm, c.off)
		}
	}
}

// lastOf is a module of two functions and two globals; the last function has the code and two locals.
func lastOf(code string) []byte {
	return module("02 7e01 00 7f01 00", function{"i:", "", ""}, function{":", "ii", code})
}
