package stoker_test

import (
	"strings"
	"testing"

	"stoker/api"
)

func TestLocalsAtTheirBounds(t *testing.T) {
	for _, params := range []string{"", "i", "ilililil"} {
		rest := api.MaxLocals - len(params)
		good(t, module("00", function{params + ":", strings.Repeat("l", rest), ""}))
		good(t, module("00", function{params + ":l", strings.Repeat("l", rest), "201f"}))
		beyond := module("00", function{params + ":", strings.Repeat("i", rest+1), ""})
		wants(t, beyond, api.ErrForm, len(beyond)-rest-3)
		full := module("00", function{params + ":", strings.Repeat("i", rest), "2020 1a"})
		badCode(t, full, "2020 1a", api.ErrForm, 1)
	}
	for c := range 256 {
		if byte(c) != api.I32 && byte(c) != api.I64 {
			data := raw(":", "02 7e"+digits(byte(c))+"0b")
			wants(t, data, api.ErrForm, len(data)-2)
		}
	}
	for _, cut := range []string{"", "01", "02 7f", "20" + strings.Repeat("7f", 31), "80"} {
		data := raw(":", cut)
		wants(t, data, api.ErrForm, len(data))
	}
	for _, c := range badU {
		data := raw(":", c.digits)
		wants(t, data, api.ErrForm, len(data)-len(unhex(c.digits))+c.at)
	}
}

func TestSizesOfBodies(t *testing.T) {
	ahead := head("00", function{sig: ":"}, function{sig: ":"})
	at := len(ahead)
	for _, c := range []struct {
		digits string
		at     int
	}{
		{"", 0}, {"80", 1}, {"00", 1}, {"00 02 00 0b", 1}, {"01 00 0b", 2}, {"03 00 0b", 0}, {"7f 00 0b", 0}, {"ffffffff0f 00 0b", 0}, {"8200 00 0b", 0},
		{"02 00 0b", 3}, {"02 00 0b 80", 4}, {"02 00 0b 02 00", 3}, {"02 00 0b 03 00 0b", 3}, {"02 00 0b 01 00 0b", 5},
		{"03 00 0b 01 02 00 0b", 3}, {"03 00 0b 0b 02 00 0b", 3}, {"02 00 0b 03 00 0b 01", 6}, {"05 00 0240 0b 0b 04 00 0b 0240", 9},
		{"02 00 0b 02 00 0b 00", 6}, {"02 00 0b 02 00 0b 02 00 0b", 6}, {"02 00 0b 02 00 0b ff", 6},
	} {
		wants(t, append(append([]byte{}, ahead...), unhex(c.digits)...), api.ErrForm, at+c.at)
	}
	good(t, append(append([]byte{}, ahead...), unhex("02 00 0b 02 00 0b")...))
	// The END of the body is looked at ahead of what stands behind it.
	data := append(append([]byte{}, ahead...), unhex("05 00 4101 0b 01 02 00 0b")...)
	wants(t, data, api.ErrType, at+4)
}

// codeCase is code of a function, the error and its place from the first instruction on.
type codeCase struct {
	sig, code string
	err       api.Errno
	off       int
}

func checkCode(t *testing.T, cases []codeCase) {
	t.Helper()
	for _, c := range cases {
		data := module("02 7f00 05 7e01 06", function{c.sig, "il", c.code})
		if c.err == api.OK {
			good(t, data)
		} else {
			badCode(t, data, c.code, c.err, c.off)
		}
	}
}

func TestStackAtTheEnd(t *testing.T) {
	checkCode(t, []codeCase{
		{":", "", api.OK, 0}, {":i", "4101", api.OK, 0}, {":l", "4201", api.OK, 0},
		{":i", "", api.ErrType, 0}, {":", "4101", api.ErrType, 2}, {":i", "4201", api.ErrType, 2}, {":l", "4101", api.ErrType, 2}, {":i", "4101 4101", api.ErrType, 4},
		{":", "0240 4101 0b", api.ErrType, 4}, {":i", "027f 0b", api.ErrType, 2}, {":i", "027f 4201 0b", api.ErrType, 4}, {":i", "027f 4101 4101 0b", api.ErrType, 6}, {":i", "4101 027f 0b", api.ErrType, 4},
		{":i", "027f 4101 0b", api.OK, 0}, {":l", "037e 4201 0b", api.OK, 0}, {":i", "4101 0240 0b", api.OK, 0}, {":i", "4101 027f 4102 0b 6a", api.OK, 0},
		{":i", "0240 0b", api.ErrType, 3}, {":", "027f 4101 0b", api.ErrType, 5},
	})
}

func TestAnyTypes(t *testing.T) {
	checkCode(t, []codeCase{
		{":", "4101 1a", api.OK, 0}, {":", "4201 1a", api.OK, 0}, {":", "1a", api.ErrType, 0}, {":", "4101 0240 1a 0b", api.ErrType, 4},
		{":i", "4101 4102 4103 1b", api.OK, 0}, {":l", "4201 4202 4103 1b", api.OK, 0},
		{":i", "4101 4102 4203 1b", api.ErrType, 6}, {":i", "4101 4202 4103 1b", api.ErrType, 6}, {":i", "4201 4102 4103 1b", api.ErrType, 6},
		{":i", "4101 4102 1b", api.ErrType, 4}, {":i", "4101 1b", api.ErrType, 2}, {":i", "1b", api.ErrType, 0}, {":l", "4101 4102 4103 1b", api.ErrType, 7}, {":i", "4101 027f 4102 4103 1b 0b", api.ErrType, 8},
	})
}

func TestLocalsAndGlobals(t *testing.T) {
	// The parameter is an I64, the locals behind it are an I32 and an I64; global 0 may not be set.
	checkCode(t, []codeCase{
		{"l:l", "2000", api.OK, 0}, {"l:i", "2001", api.OK, 0}, {"l:l", "2002", api.OK, 0}, {"l:i", "2000", api.ErrType, 2}, {"l:l", "2001", api.ErrType, 2},
		{"l:", "4201 2100", api.OK, 0}, {"l:", "4101 2101", api.OK, 0}, {"l:", "4101 2100", api.ErrType, 2}, {"l:", "4201 2101", api.ErrType, 2}, {"l:", "2101", api.ErrType, 0}, {"l:i", "4101 2101", api.ErrType, 4},
		{"l:l", "4201 2200", api.OK, 0}, {"l:i", "4101 2201", api.OK, 0}, {"l:l", "4101 2200", api.ErrType, 2}, {"l:i", "2201", api.ErrType, 0}, {"l:", "4101 2201", api.ErrType, 4},
		{":i", "2300", api.OK, 0}, {":l", "2301", api.OK, 0}, {":l", "2300", api.ErrType, 2}, {":i", "2301", api.ErrType, 2},
		{":", "4201 2401", api.OK, 0}, {":", "4101 2401", api.ErrType, 2}, {":", "2401", api.ErrType, 0}, {":", "4101 2400", api.ErrType, 2}, {":", "4201 2400", api.ErrType, 2}, {":", "2400", api.ErrType, 0},
		{":l", "4201 2401", api.ErrType, 4},
	})
}

func TestCallsInCode(t *testing.T) {
	for _, c := range []codeCase{
		{":l", "4101 4202 1001", api.OK, 0}, {":", "1002", api.OK, 0}, {":i", "4103 4101 4202 1001 a7 6a", api.OK, 0},
		{":l", "4202 4101 1001", api.ErrType, 4}, {":l", "4202 1001", api.ErrType, 2}, {":l", "1001", api.ErrType, 0}, {":i", "4101 4202 1001", api.ErrType, 6}, {":l", "4101 0240 4202 1001 0b", api.ErrType, 6},
		{":l", "1000", api.OK, 0}, {":l", "1002", api.ErrType, 2},
	} {
		// Both others stand behind the one that is called from: all types are known ahead of the bodies.
		fs := []function{{c.sig, "", c.code}, {"il:l", "", "2001"}, {":", "", ""}}
		data := module("00", fs...)
		if c.err == api.OK {
			good(t, data)
		} else {
			wants(t, data, c.err, len(head("00", fs...))+2+c.off)
		}
	}
}

func TestBranches(t *testing.T) {
	checkCode(t, []codeCase{
		// What a branch carries is its label's value; what lies below does not matter.
		{":i", "4101 0c00", api.OK, 0}, {":i", "4201 4101 0c00", api.OK, 0}, {":", "4201 4101 0c00", api.OK, 0}, {":i", "0c00", api.ErrType, 0}, {":i", "4201 0c00", api.ErrType, 2}, {":i", "4101 4201 0c00", api.ErrType, 4},
		{":i", "027f 4101 0c00 0b", api.OK, 0}, {":i", "027f 4201 0c00 0b", api.ErrType, 4}, {":i", "027f 0c00 0b", api.ErrType, 2}, {":i", "4101 027f 0c00 0b", api.ErrType, 4}, {":i", "027e 4101 0c01 0b a7", api.OK, 0}, {":i", "027e 4201 0c01 0b a7", api.ErrType, 4},
		// A value ahead of a block is out of reach for a branch out of it, too.
		{":i", "4101 0240 0c01 0b", api.ErrType, 4}, {":i", "4101 0240 0f 0b", api.ErrType, 4},
		// A LOOP's label has no value, its END has.
		{":i", "037f 0c00 0b", api.OK, 0}, {":i", "037f 4201 0c00 0b", api.OK, 0}, {":i", "037f 4100 0d00 4101 0b", api.OK, 0}, {":i", "037f 4101 4100 0d00 0b", api.OK, 0}, {":i", "037f 4100 0d00 0b", api.ErrType, 6},
		// 0d leaves the value where it is.
		{":i", "4101 4102 0d00", api.OK, 0}, {":i", "4101 0d00", api.ErrType, 2}, {":i", "4101 4202 0d00", api.ErrType, 4}, {":i", "4201 4102 0d00", api.ErrType, 4}, {":", "4201 0d00", api.ErrType, 2}, {":", "0d00", api.ErrType, 0}, {":", "4101 4101 0d00", api.ErrType, 6}, {":", "4101 0240 0d00 0b", api.ErrType, 4},
		// IFs.
		{":i", "4101 047f 4101 0c00 05 4102 0c00 0b", api.OK, 0}, {":i", "4101 047f 0c00 05 4102 0b", api.ErrType, 4}, {":i", "4101 047f 4101 05 4102 0c01 0b", api.OK, 0},
		// 0f goes to the body, from however deep.
		{":", "0f", api.OK, 0}, {":l", "4201 0f", api.OK, 0}, {":l", "027f 0340 4101 4201 0f 0b 4101 0b 1a 4201", api.OK, 0}, {":l", "0f", api.ErrType, 0}, {":l", "4101 0f", api.ErrType, 2}, {":l", "027f 4101 0f 0b", api.ErrType, 4},
	})
}

func TestTables(t *testing.T) {
	many := "4101 0e 10" + strings.Repeat("00", 17)
	checkCode(t, []codeCase{
		{":", "4101 0e00 00", api.OK, 0}, {":", many, api.OK, 0}, {":", "4101 0e 11" + strings.Repeat("00", 18), api.ErrForm, 3},
		{":", "0e00 00", api.ErrType, 0}, {":", "4201 0e00 00", api.ErrType, 2}, {":", "4101 0240 0e00 00 0b", api.ErrType, 4},
		{":i", "4101 4102 0e00 00", api.OK, 0}, {":i", "4201 4101 4102 0e00 00", api.OK, 0}, {":i", "4102 0e00 00", api.ErrType, 2}, {":i", "4201 4102 0e00 00", api.ErrType, 4},
		{":i", "027f 4101 4102 0e02 010001 0b", api.OK, 0}, {":i", "4101 027f 4102 0e01 0100 0b", api.ErrType, 6},
		// Values of other kinds, whichever of the labels has it.
		{":i", "027e 4201 4102 0e01 0001 0b a7", api.ErrType, 6}, {":i", "027e 4201 4102 0e01 0100 0b a7", api.ErrType, 6}, {":i", "0240 4101 4102 0e01 0001 0b 4101", api.ErrType, 6}, {":i", "0240 4101 4102 0e01 0100 0b 4101", api.ErrType, 6}, {":i", "0240 4101 4102 0e02 010001 0b 4101", api.ErrType, 6},
		// A LOOP with a result is of the kind without a value.
		{":", "037f 4101 0e01 0001 0b 1a", api.OK, 0}, {":i", "037f 4101 4102 0e01 0001 0b", api.ErrType, 6},
	})
}

func TestIfAndElse(t *testing.T) {
	checkCode(t, []codeCase{
		{":", "4101 0440 0b", api.OK, 0}, {":", "4101 0440 05 0b", api.OK, 0}, {":i", "4101 047f 4101 05 4102 0b", api.OK, 0}, {":", "0440 0b", api.ErrType, 0}, {":", "4201 0440 0b", api.ErrType, 2}, {":", "4101 0240 0440 0b 0b", api.ErrType, 4},
		// ELSE where the innermost block is no IF without one.
		{":", "05", api.ErrType, 0}, {":", "0240 05 0b", api.ErrType, 2}, {":", "0340 05 0b", api.ErrType, 2}, {":", "4101 0440 0240 05 0b 0b", api.ErrType, 6}, {":", "4101 0440 05 05 0b", api.ErrType, 5}, {":", "4101 0440 05 0240 05 0b 0b", api.ErrType, 7}, {":", "00 05", api.ErrType, 1}, {":", "0240 00 05 0b", api.ErrType, 3}, {":", "4101 0440 05 00 05 0b", api.ErrType, 6},
		// Each part finds the stack as it was, and leaves just the result.
		{":i", "4101 047f 05 4102 0b", api.ErrType, 4}, {":i", "4101 047f 4201 05 4102 0b", api.ErrType, 6}, {":i", "4101 047f 4101 4101 05 4102 0b", api.ErrType, 8}, {":i", "4101 047f 4101 05 0b", api.ErrType, 7}, {":i", "4101 047f 4101 05 4202 0b", api.ErrType, 9}, {":", "4101 0440 4101 05 0b", api.ErrType, 6}, {":", "4101 0440 05 4101 0b", api.ErrType, 7},
		{":i", "4101 4102 047f 4101 05 4102 0b 6a", api.OK, 0}, {":i", "4101 4102 0440 05 1a 0b", api.ErrType, 7},
		// With a result there must be an ELSE: END finds that, whatever the stack is.
		{":i", "4101 047f 4101 0b", api.ErrType, 6}, {":i", "4101 047f 00 0b", api.ErrType, 5}, {":i", "4101 047f 4101 0c00 0b", api.ErrType, 8},
		{":i", "4101 047f 00 05 00 0b", api.OK, 0},
	})
}

func TestBehindWhatNeverGoesOn(t *testing.T) {
	for _, stop := range []string{"00", "0c00", "0f", "4101 0e0000"} {
		for c := range 256 {
			op := byte(c)
			code := "0240 4207" + stop + digits(op) + "0b"
			place := len(unhex("0240 4207" + stop))
			data := module("00", function{":", "", code})
			switch {
			case op == 0x0b:
				// It ends the block, and the END behind it the body: then one is too many.
				badCode(t, data, code, api.ErrForm, place+2)
				good(t, module("00", function{":", "", "0240 4207" + stop + "0b"}))
			case known(op):
				badCode(t, data, code, api.ErrType, place)
			default:
				badCode(t, data, code, api.ErrForm, place)
			}
		}
		good(t, module("00", function{":", "", "4101 0440 4207" + stop + "05 4207" + stop + "0b 01"}))
		good(t, module("00", function{":", "", "4207" + stop}))
	}
	checkCode(t, []codeCase{
		// The first byte tells: what stands behind it is not read.
		{":", "00 41", api.ErrType, 1}, {":", "0f 20ffffffffff", api.ErrType, 1}, {":", "0c00 0241", api.ErrType, 2}, {":", "00 06", api.ErrForm, 1},
		// 0d goes on, and so does what stands behind an END.
		{":", "4101 0d00 01", api.OK, 0}, {":i", "027f 00 0b", api.OK, 0}, {":i", "027f 00 0b 45", api.OK, 0}, {":", "027f 00 0b", api.ErrType, 4}, {":l", "027f 00 0b", api.ErrType, 4}, {":i", "0240 00 0b", api.ErrType, 4}, {":i", "4205 027f 4206 00 0b", api.ErrType, 8},
	})
}

func TestDeepest(t *testing.T) {
	for _, open := range []string{"0240", "0340", "4101 0440"} {
		size := len(unhex(open))
		deep := strings.Repeat(open, api.MaxNest)
		good(t, module("00", function{":", "", deep + strings.Repeat("0b", 16)}))
		// One ended, there is room for another.
		good(t, module("00", function{":", "", deep + "0b" + open + strings.Repeat("0b", 16)}))
		code := deep + open + strings.Repeat("0b", 17)
		badCode(t, module("00", function{":", "", code}), code, api.ErrType, 17*size-2)
		code = deep + open[:len(open)-2] + "41" + strings.Repeat("0b", 17)
		badCode(t, module("00", function{":", "", code}), code, api.ErrForm, 17*size-1)
	}
	deep := strings.Repeat("0240", 16)
	good(t, module("00", function{":", "", deep + "0c10" + strings.Repeat("0b", 16)}))
	code := deep + "0c11" + strings.Repeat("0b", 16)
	badCode(t, module("00", function{":", "", code}), code, api.ErrForm, 33)
}

func TestBlockTypes(t *testing.T) {
	for c := range 256 {
		b := byte(c)
		for _, op := range []string{"02", "03", "04"} {
			code := op + digits(b) + "0b"
			if b != 0x40 && b != api.I32 && b != api.I64 {
				// Read first: an IF's empty stack is not what is told.
				badCode(t, module("00", function{":", "", code}), code, api.ErrForm, 1)
			}
		}
	}
}

// TestFirstOfSeveral: what is met first is told, whatever comes behind it.
func TestFirstOfSeveral(t *testing.T) {
	checkCode(t, []codeCase{
		{":", "6a 06", api.ErrType, 0}, {":", "06 6a", api.ErrForm, 0}, {":", "2009 6a", api.ErrForm, 1}, {":", "1a 2009", api.ErrType, 0}, {":", "0b 06", api.ErrForm, 1}, {":", "4101 0b 06", api.ErrType, 2},
	})
	wants(t, unhex(start+"01 00 01 40 11"), api.ErrForm, 7)
	two := append(head("00", function{sig: ":"}, function{sig: ":"}), unhex("03 00 1a 0b 7f")...)
	wants(t, two, api.ErrType, len(two)-3)
}
