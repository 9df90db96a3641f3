package stoker_test

import (
	"strings"
	"testing"

	"stoker/api"
)

// ran is a call of function 0 that comes to its end.
type ran struct {
	name, sig, code string
	arg             uint64 // where there is a parameter
	value           uint64
	used            int
}

func (c ran) args() []uint64 {
	if strings.HasPrefix(c.sig, ":") {
		return nil
	}
	return []uint64{c.arg}
}

// run has functions 1 to 4 beside it for the code to call: a difference; 7 by a return out of an IF, or 8; nothing at all; locals that nobody has set.
func (c ran) run(t *testing.T) {
	t.Run(c.name, func(t *testing.T) {
		data := module("00",
			function{c.sig, "il", c.code},
			function{"ii:i", "", "2000 2001 6b"},
			function{"i:l", "", "2000 04 40 4207 0f 0b 4208"},
			function{":", "", ""},
			function{":l", "il", "2001 2000 ac 84"})
		burns(t, data, api.Reply{Value: c.value, Used: c.used}, 0, c.args()...)
	})
}

func TestBlocks(t *testing.T) {
	for _, c := range []ran{
		{"nothing", ":", "", 0, 0, 0},
		{"01", ":", "01 01", 0, 0, 2},
		{"block", ":", "0240 01 0b", 0, 0, 2},
		{"block with a result", ":i", "027f 4105 0b", 0, 5, 2},
		{"blocks in one another", ":l", "027e 0240 0b 027e 4205 0b 0b", 0, 5, 4},
		{"branch over the rest", ":i", "0240 0c00 0b 4105", 0, 5, 3},
		{"branch drops what lies below its value", ":i", "4101 027f 4102 4103 4104 0c00 0b 6a", 0, 5, 7},
		{"branch drops values of another type", ":l", "4201 027e 4102 4203 4204 0c00 0b 7c", 0, 5, 7},
		{"branch without a value drops all", ":i", "4101 0240 4102 4203 0c00 0b", 0, 1, 5},
		{"branch out of two", ":i", "4101 027f 4102 0240 4107 0c01 0b 0b 6a", 0, 8, 7},
		{"branch to the body", ":i", "4101 0240 4109 0c01 0b", 0, 9, 4},
		{"branch of the body itself", ":i", "4101 4102 0c00", 0, 2, 3},
		{"return", ":i", "4101 0240 0240 4109 0f 0b 0b", 0, 9, 5},
		{"return of nothing", ":", "4101 0340 4109 0f 0b 1a", 0, 0, 4},
		{"return of an I64", ":l", "4101 4209 0f", 0, 9, 3},
	} {
		c.run(t)
	}
}

func TestLoops(t *testing.T) {
	const least = 1 << 31
	for _, c := range []ran{
		{"loop with a result", ":i", "037f 4105 0b", 0, 5, 2},
		{"loop that is left at once", ":", "0340 01 0b", 0, 0, 2},
		// A branch back goes behind the 03, so that it burns but once.
		{"three times round", "i:i", "0340 2000 4101 6b 2200 0d00 0b 2000", 3, 0, 1 + 3*5 + 1},
		{"a value is left behind each time", "i:i", "41e400 0340 4107 2000 4101 6b 2200 0d00 1a 0b", 3, 100, 2 + 3*6 + 1},
		{"branch back out of a block", "i:i", "0340 0240 2000 45 0d00 2000 4101 6b 2100 0c01 0b 0b 4105", 2, 5, 1 + 2*9 + 4 + 1},
		{"sum", "i:i", "0240 0340 2000 45 0d01 2001 2000 6a 2101 2000 4101 6b 2100 0c00 0b 0b 2001", 10, 55, 2 + 10*12 + 3 + 1},
		{"the sign bit is not 0", "i:i", "0340 2000 4101 74 2200 0d00 0b 4105", least, 5, 1 + 5 + 1},
	} {
		c.run(t)
	}
}

func TestIfs(t *testing.T) {
	const both = "2000 047f 410a 05 4114 0b"
	const alone = "2000 0440 4105 2101 0b 2001"
	const nested = "2000 047f 2000 4101 46 047f 4101 05 4102 0b 05 4103 0b"
	const leaving = "2000 047f 4107 4101 0c00 05 4108 4102 2000 0d00 6a 0b"
	const noResult = "2000 0440 4101 2101 05 4102 2101 0b 2001"
	for _, c := range []ran{
		{"first part", "i:i", both, 1, 10, 3},
		{"first part for all but 0", "i:i", both, 1 << 31, 10, 3},
		{"second part", "i:i", both, 0, 20, 3},
		{"no ELSE, first part", "i:i", alone, 1, 5, 5},
		{"no ELSE, over it", "i:i", alone, 0, 0, 3},
		{"nested, first of the first", "i:i", nested, 1, 1, 7},
		{"nested, second of the first", "i:i", nested, 2, 2, 7},
		{"nested, second", "i:i", nested, 0, 3, 3},
		{"branch out of the first", "i:i", leaving, 1, 1, 5},
		{"second with a branch that is not taken", "i:i", leaving, 0, 10, 7},
		{"no result, first", "i:i", noResult, 7, 1, 5},
		{"no result, second", "i:i", noResult, 0, 2, 5},
		{"empty parts", "i:", "2000 0440 05 0b", 1, 0, 2},
		{"values below stay", "i:i", "4105 2000 047f 4101 05 4102 0b 6a", 0, 7, 5},
		{"values below stay at the end of the first", "i:i", "4105 2000 047f 4101 05 4102 0b 6a", 9, 6, 5},
	} {
		c.run(t)
	}
}

func TestBranchesOnAValue(t *testing.T) {
	for _, c := range []ran{
		{"taken", "i:i", "4105 2000 0d00 4101 6a", 1, 5, 3},
		{"taken for all but 0", "i:i", "4105 2000 0d00 4101 6a", 1 << 31, 5, 3},
		{"not taken: the value stays", "i:i", "4105 2000 0d00 4101 6a", 0, 6, 5},
		{"taken over values", "i:i", "4109 027f 4108 4107 2000 0d00 1a 1a 4106 0b 6a", 1, 16, 7},
		{"not taken over values", "i:i", "4109 027f 4108 4107 2000 0d00 1a 1a 4106 0b 6a", 0, 15, 10},
		{"taken without a value", "i:i", "4105 0240 2000 0d00 1003 0b", 4, 5, 4},
		{"not taken without a value", "i:i", "4105 0240 2000 0d00 1003 0b", 0, 5, 5},
	} {
		c.run(t)
	}
}

func TestTablesRun(t *testing.T) {
	const three = "0240 0240 0240 2000 0e02 00 01 02 0b 410a 0f 0b 410b 0f 0b 410c"
	const lone = "0240 2000 0e00 00 0b 4105"
	// With a value, and with values of the blocks around it to be dropped.
	const carrying = "4101 027f 4102 027f 4103 4104 2000 0e01 00 01 0b 6a 0b 6a"
	// To the beginning of the loop, or, with the number 0, out of the block around it.
	const back = "0240 0340 2000 4101 6b 2200 0e01 01 00 0b 0b 2000"
	for _, c := range []ran{
		{"first", "i:i", three, 0, 10, 7},
		{"second", "i:i", three, 1, 11, 7},
		{"last, by its number", "i:i", three, 2, 12, 6},
		{"last, by one beyond", "i:i", three, 3, 12, 6},
		{"last, by the greatest number", "i:i", three, 1<<32 - 1, 12, 6},
		{"last, by the least signed number", "i:i", three, 1 << 31, 12, 6},
		{"no label but the last", "i:i", lone, 0, 5, 4},
		{"no label but the last, beyond", "i:i", lone, 7, 5, 4},
		{"carrying to the inner one", "i:i", carrying, 0, 7, 10},
		{"carrying to the outer one", "i:i", carrying, 1, 5, 9},
		{"back twice, then out", "i:i", back, 3, 0, 2 + 3*5 + 1},
	} {
		c.run(t)
	}
}

func TestLongestTable(t *testing.T) {
	labels := strings.Repeat("00", api.MaxTable-2) + "01 02" + "01"
	code := "0240 0240 0240 2000 0e10" + labels + "0b 410a 0f 0b 410b 0f 0b 410c"
	for _, c := range []ran{
		{"the first", "i:i", code, 0, 10, 7},
		{"the fourteenth", "i:i", code, 13, 10, 7},
		{"the fifteenth", "i:i", code, 14, 11, 7},
		{"the sixteenth", "i:i", code, 15, 12, 6},
		{"the last", "i:i", code, 16, 11, 7},
		{"beyond", "i:i", code, 17, 11, 7},
	} {
		c.run(t)
	}
}

func TestInnerCalls(t *testing.T) {
	for _, c := range []ran{
		{"the last argument is the top", ":i", "4109 4104 1001", 0, 5, 6},
		{"values below stay", ":i", "41e400 4109 4104 1001 6a", 0, 105, 8},
		{"a return ends the inner call alone", ":l", "4101 1002 4101 ac 7c", 0, 8, 2 + 4 + 3},
		{"the other way out", ":l", "4100 1002 4101 ac 7c", 0, 9, 2 + 3 + 3},
		{"a function that does nothing", ":i", "4105 1003 1003", 0, 5, 3},
		{"locals are the call's own", "i:i", "4107 2101 4105 4102 1001 1a 2000 2001 6a", 3, 10, 12},
		{"twenty calls, one after the other", ":", strings.Repeat("1003", 20), 0, 0, 20},
	} {
		c.run(t)
	}
}

func TestVariablesAndChoice(t *testing.T) {
	for _, c := range []ran{
		{"locals are 0 at first", ":i", "2000", 0, 0, 1},
		{"locals of 64 bits are 0 at first", ":l", "2001", 0, 0, 1},
		{"locals lie where values were", ":l", "427f 427f 427f 1a 1a 1a 1004", 0, 0, 6 + 1 + 4},
		{"set", ":i", "4105 2100 2000", 0, 5, 3},
		{"set and kept", ":i", "4105 2200 2000 6c", 0, 25, 4},
		{"a parameter is set", "i:i", "4105 2100 2000", 9, 5, 3},
		{"64 bits", ":l", "427f 2201 2001 7c", 0, 1<<64 - 2, 4},
		{"drop", ":i", "4105 4206 1a", 0, 5, 3},
		{"the first", "i:i", "4105 4106 2000 1b", 1, 5, 4},
		{"the first for all but 0", "i:i", "4105 4106 2000 1b", 1 << 31, 5, 4},
		{"the second", "i:i", "4105 4106 2000 1b", 0, 6, 4},
		{"the first of 64 bits", "i:l", "427f 4206 2000 1b", 2, 1<<64 - 1, 4},
		{"the second of 64 bits", "i:l", "427f 4206 2000 1b", 0, 6, 4},
	} {
		c.run(t)
	}
}

// TestEachBurnsOne has every instruction whose types are always the same, and those of globals; what they answer is told elsewhere.
func TestEachBurnsOne(t *testing.T) {
	all := append(shapes(), shape{0x23, "00", "", "i"}, shape{0x24, "00", "i", ""}, shape{0x1a, "", "l", ""}, shape{0x1b, "", "lli", "l"})
	for _, s := range all {
		data := paged(1, "01 7f01 05", function{":" + s.gives, "", push(s.takes) + digits(s.op) + s.behind})
		want := begin(t, data).Call(0, nil, api.MaxFuel)
		if want.Used != len(s.takes)+1 {
			t.Errorf("%x: %+v, want %d instructions", s.op, want, len(s.takes)+1)
		}
		burns(t, data, want, 0)
	}
}

func TestTraps(t *testing.T) {
	for _, c := range []struct {
		code string
		trap api.Trap
		used int
	}{
		{"00", api.Unreachable, 1},
		{"01 01 00", api.Unreachable, 3},
		{"0240 0340 00 0b 0b", api.Unreachable, 3},
		{"4101 4100 6d 1a", api.Divide, 3},
		{"4280 8080 8080 8080 8080 7f 427f 7f 1a", api.Overflow, 3},
		{"4100 2d00 1a", api.Bounds, 2},
		{"1000", api.Calls, 16},
		{"1001", api.Unreachable, 3},
		{"0340 0c00 0b", api.Fuel, api.MaxFuel},
		{"0340 1002 0c00 0b", api.Fuel, api.MaxFuel},
	} {
		data := module("00", function{":", "", c.code}, function{":", "", "01 00"}, function{":", "", "0240 0b"})
		if c.trap != api.Fuel {
			burns(t, data, api.Reply{Trap: c.trap, Used: c.used}, 0)
		}
		gives(t, begin(t, data), api.Reply{Trap: c.trap, Used: c.used}, api.MaxFuel, 0)
	}
	keys := ""
	for n := range 9 {
		keys += "42" + digits(byte(n)) + "4201 e1"
	}
	burns(t, module("00", function{":", "", keys}), api.Reply{Trap: api.Keys, Used: 27}, 0)
}

func TestCallsInOneAnother(t *testing.T) {
	// A function calls itself so often as its argument says, and counts on the way back.
	deep := function{"i:i", "", "2000 45 047f 4100 05 2000 4101 6b 1000 4101 6a 0b"}
	data := module("00", deep)
	for n := range uint64(api.MaxCalls) {
		burns(t, data, api.Reply{Value: n, Used: 9*int(n) + 4}, 0, n)
	}
	// The call that is one too many traps when it is met, ahead of anything of it.
	for _, n := range []uint64{api.MaxCalls, api.MaxCalls + 1, 1<<32 - 1} {
		burns(t, data, api.Reply{Trap: api.Calls, Used: 7 * api.MaxCalls}, 0, n)
	}
	i := begin(t, data)
	gives(t, i, api.Reply{Trap: api.Calls, Used: 112}, 200, 0, 16)
	gives(t, i, api.Reply{Value: 15, Used: 139}, 200, 0, 15)

	// Those of different functions count together.
	two := module("00",
		function{"i:", "", "2000 0440 2000 4101 6b 1001 0b"},
		function{"i:", "", "2000 0440 2000 4101 6b 1000 0b"})
	burns(t, two, api.Reply{Used: 15*6 + 2}, 0, 15)
	burns(t, two, api.Reply{Trap: api.Calls, Used: 16 * 6}, 0, 16)
	burns(t, two, api.Reply{Trap: api.Calls, Used: 16 * 6}, 1, 17)
}

func TestDeepBlocksRun(t *testing.T) {
	data := module("00", function{":i", "", strings.Repeat("0240", api.MaxNest) + "4107 0c10" + strings.Repeat("0b", api.MaxNest) + "4108"})
	burns(t, data, api.Reply{Value: 7, Used: api.MaxNest + 2}, 0)
	data = module("00", function{":i", "", strings.Repeat("0240", api.MaxNest) + "0c0f" + strings.Repeat("0b", api.MaxNest) + "4108"})
	burns(t, data, api.Reply{Value: 8, Used: api.MaxNest + 2}, 0)
}

// TestManyParameters has all of them in the right places, of both widths.
func TestManyParameters(t *testing.T) {
	code := "2000"
	for n := 1; n < 8; n++ {
		code += "420a 7e" + "20" + digits(byte(n))
		if n%2 == 1 {
			code += "ad"
		}
		code += "7c"
	}
	data := module("00", function{"lililili:l", strings.Repeat("i", 24), code})
	burns(t, data, api.Reply{Value: 12345678, Used: 1 + 7*4 + 4}, 0, 1, 2, 3, 4, 5, 6, 7, 8)
}

func TestExample(t *testing.T) {
	data := unhex(sum)
	i := begin(t, data)
	gives(t, i, api.Reply{Value: 1, Used: 3}, 9, 0, 2, 4294967295)
	gives(t, i, api.Reply{Trap: api.Fuel, Used: 2}, 2, 0, 2, 4294967295)
	gives(t, i, api.Reply{Err: api.ErrArgs}, 9, 0, 1)
}
