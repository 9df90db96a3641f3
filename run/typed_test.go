package run

import (
	"bytes"
	"encoding/hex"
	"slices"
	"strings"
	"testing"

	"stoker/api"
	"stoker/code"
	"stoker/look"
)

// described is a module of which the types are told besides, in letters: "i" is an I32, "l" an I64.
type described struct {
	head    string // digits of all that stands ahead of the bodies
	globals string
	funcs   []one
}

// one is a function.
type one struct {
	params, more, result string // of its locals parameters stand first
	code                 string // digits without the last END
}

func unhex(t *testing.T, digits string) []byte {
	t.Helper()
	b, err := hex.DecodeString(strings.ReplaceAll(digits, " ", ""))
	if err != nil {
		t.Fatal(err)
	}
	return b
}

func letters(types []byte) string {
	return strings.NewReplacer("\x7f", "i", "\x7e", "l").Replace(string(types))
}

// data gives the module, and the places of all bytes of code in it.
func (d described) data(t *testing.T) ([]byte, []int) {
	t.Helper()
	out, places := unhex(t, d.head), []int{}
	for _, f := range d.funcs {
		locals := strings.NewReplacer("i", "\x7f", "l", "\x7e").Replace(f.more)
		body := append([]byte{byte(len(locals))}, locals...)
		instrs := unhex(t, f.code)
		out = append(append(out, byte(len(body)+len(instrs)+1)), body...)
		for n := range instrs {
			places = append(places, len(out)+n)
		}
		out = append(append(out, instrs...), code.End)
	}
	return out, places
}

// typed is a machine with the types of all that lies on its stack.
type typed struct {
	*testing.T
	*machine
	told  described
	types string         // of the stack, the locals too
	funcs []int          // those that are being run
	met   map[int]string // the types above the locals at each place of the list
}

// run runs a function as the machine itself does, but looks at the stack ahead of each instruction and behind it.
func (x *typed) run(f int, args []uint64) api.Trap {
	x.stack = slices.Clone(args)
	x.types = x.told.funcs[f].params
	x.machine.enter(f)
	x.enter(f)
	for len(x.calls) > 0 {
		if x.fuel == 0 {
			return api.Fuel
		}
		x.fuel--
		if trap := x.step(); trap != api.None {
			return trap
		}
		x.check()
	}
	if want := x.told.funcs[f].result; x.types != want {
		x.Fatalf("the call leaves %q, want %q", x.types, want)
	}
	return api.None
}

func (x *typed) enter(f int) {
	x.types += x.told.funcs[f].more
	x.funcs = append(x.funcs, f)
}

// inside is what the innermost function has put above its locals.
func (x *typed) inside() string { return x.types[x.inner().floor:] }

// check holds the types against what lies on the stack.
func (x *typed) check() {
	if len(x.stack) != len(x.types) {
		x.Fatalf("at %d there are %d values, want %q", x.at, len(x.stack), x.types)
	}
	for n, value := range x.stack {
		if x.types[n] == 'i' && value>>32 != 0 {
			x.Fatalf("at %d the value %d of %q is %x", x.at, n, x.types, value)
		}
	}
	for n, value := range x.state.Globals {
		if x.told.globals[n] == 'i' && value>>32 != 0 {
			x.Fatalf("at %d the global %d is %x", x.at, n, value)
		}
	}
}

func (x *typed) step() api.Trap {
	at := x.at
	in := x.module.Code[at]
	if old, there := x.met[at]; there && old != x.inside() {
		x.Fatalf("at %d there is %q, before it was %q", at, x.inside(), old)
	}
	x.met[at] = x.inside()
	to, jumps := x.jump(in)
	takes, gives := x.shape(in)
	if !strings.HasSuffix(x.inside(), takes) {
		x.Fatalf("%x at %d takes %q and finds %q", in.Op, at, takes, x.inside())
	}
	floor, locals := x.inner().floor, x.inner().locals
	x.at++
	if trap := x.machine.step(in); trap != api.None {
		return trap
	}
	x.types = strings.TrimSuffix(x.types, takes)
	switch {
	case jumps:
		kept := x.types[len(x.types)-to.Keep:]
		x.types = x.types[:floor+to.Height] + kept
	case in.Op == code.Call:
		x.types += takes
		x.enter(int(in.Num))
	case in.Op == code.End:
		x.types = x.types[:locals] + x.ends(floor)
	default:
		x.types += gives
	}
	return api.None
}

// ends wants just the result of the innermost function above its locals.
func (x *typed) ends(floor int) string {
	last := len(x.funcs) - 1
	result := x.told.funcs[x.funcs[last]].result
	if x.types[floor:] != result {
		x.Fatalf("a function leaves %q, want %q", x.types[floor:], result)
	}
	x.funcs = x.funcs[:last]
	return result
}

// jump tells where the instruction goes, if it does not go on.
func (x *typed) jump(in code.Instr) (code.Jump, bool) {
	top := uint64(0)
	if len(x.stack) > 0 {
		top = x.stack[len(x.stack)-1]
	}
	switch in.Op {
	case code.Else, code.Branch:
		return in.Jump, true
	case code.If:
		return in.Jump, top == 0
	case code.BranchIf:
		return in.Jump, top != 0
	case code.BranchTable:
		return x.module.Code[x.at+1+int(min(top, in.Num))].Jump, true
	}
	return code.Jump{}, false
}

// shape tells what an instruction takes and gives where it stands.
func (x *typed) shape(in code.Instr) (string, string) {
	switch in.Op {
	case code.Call:
		f := x.told.funcs[in.Num]
		return f.params, f.result
	case code.Drop:
		return x.near(0), ""
	case code.Select:
		typ := x.near(1)
		return typ + typ + "i", typ
	case code.LocalGet, code.LocalSet, code.LocalTee:
		typ := x.types[x.inner().locals+int(in.Num)]
		return through(in.Op-code.LocalGet, string(typ))
	case code.GlobalGet, code.GlobalSet:
		return through(in.Op-code.GlobalGet, string(x.told.globals[in.Num]))
	}
	return always(in.Op)
}

// near is the type of the value so far below the top, and none at all where there is no such value.
func (x *typed) near(n int) string {
	inside := x.inside()
	if n >= len(inside) {
		return "none"
	}
	return string(inside[len(inside)-1-n])
}

// through is what variables do: to be read, to be set, to be set with the value left.
func through(n byte, typ string) (string, string) {
	switch n {
	case 0:
		return "", typ
	case 1:
		return typ, ""
	}
	return typ, typ
}

// always has the types of the other instructions, by the document's table.
func always(op byte) (string, string) {
	for _, row := range []struct {
		from, to     byte
		takes, gives string
	}{
		{0x04, 0x04, "i", ""}, {0x0d, 0x0e, "i", ""},
		{0x28, 0x28, "i", "i"}, {0x29, 0x29, "i", "l"}, {0x2c, 0x2d, "i", "i"},
		{0x36, 0x36, "ii", ""}, {0x37, 0x37, "il", ""}, {0x3a, 0x3a, "ii", ""},
		{0x3f, 0x3f, "", "i"}, {0x40, 0x40, "i", "i"}, {0x41, 0x41, "", "i"}, {0x42, 0x42, "", "l"},
		{0x45, 0x45, "i", "i"}, {0x46, 0x4f, "ii", "i"}, {0x50, 0x50, "l", "i"}, {0x51, 0x5a, "ll", "i"},
		{0x67, 0x69, "i", "i"}, {0x6a, 0x78, "ii", "i"}, {0x79, 0x7b, "l", "l"}, {0x7c, 0x8a, "ll", "l"},
		{0xa7, 0xa7, "l", "i"}, {0xac, 0xad, "i", "l"}, {0xe0, 0xe0, "l", "l"}, {0xe1, 0xe1, "ll", ""},
	} {
		if row.from <= op && op <= row.to {
			return row.takes, row.gives
		}
	}
	return "", ""
}

func describedOnes() []described {
	return []described{
		{"53544b01 02 01 7f 01 7f  02 7e 7f 01 7e  02 00 01  02 7f01 05 7e01 7f  01", "il", []one{
			{"i", "l", "i", "2000 4101 6a 027f 2001 a7 1a 2300 2000 0e02 000100 0b 2000 45 047f 2301 a7 05 2000 4101 6b 1000 0b 2400 6a"},
			{"li", "il", "l", "4107 027e 2000 2000 2001 0d00 7c 2203 0340 2003 4201 7d 2203 2003 50 0d01 1a 2001 4101 6b 2201 0d00 0b 1a 2301 2401 2003 0b 2103 2102 4205 2003 7c"},
		}},
		{"53544b01 03 00 00  01 7e 01 7e  02 7f 7e 01 7f  03 00 01 02  01 7e01 05  02", "l", []one{
			{"", "il", "", "4103 4207 1002 2200 4101 71 0440 2000 ad 1001 2201 2400 05 0240 2000 0d00 0f 0b 0b 4100 2001 3700"},
			{"l", "", "l", "2000 2000 2000 e0 4201 7c e1 427f 7e 4205 2000 4203 54 1b 50 047e 4201 05 4202 0f 0b"},
			{"il", "i", "i", "0240 0240 0340 2000 4101 6b 2200 0e02 020100 0b 4104 2800 0f 0b 2000 4101 40 6a 0f 0b 2001 a7 2002 2d00 72"},
		}},
	}
}

// runTyped runs all functions of a module, of which the types are as they are described.
func runTyped(t *testing.T, d described, m *code.Module) {
	t.Helper()
	met := map[int]string{}
	for f := range m.Funcs {
		for _, n := range []uint64{0, 1, 2, 3, 1<<32 - 1} {
			state := &State{Memory: make([]byte, m.Pages*api.PageBytes), Globals: slices.Clone(m.Globals), Keys: map[int64]int64{}}
			args := slices.Repeat([]uint64{n}, len(d.funcs[f].params))
			x := &typed{T: t, machine: &machine{module: m, state: state, fuel: 120}, told: d, met: met}
			x.run(f, args)
		}
	}
}

// TestTypesHold breaks the code of modules byte by byte, and follows the types of those that can still be run.
func TestTypesHold(t *testing.T) {
	ran := 0
	for _, d := range describedOnes() {
		data, places := d.data(t)
		m, fault := look.Module(data)
		if fault != nil {
			t.Fatalf("%v in % x", *fault, data)
		}
		for f, got := range m.Funcs {
			if want := d.funcs[f]; letters(got.Type.Params) != want.params || letters(got.Type.Results) != want.result {
				t.Fatalf("function %d: %q to %q, want %q to %q", f, got.Type.Params, got.Type.Results, want.params, want.result)
			}
		}
		for _, at := range places {
			for c := range 256 {
				broken := bytes.Clone(data)
				broken[at] = byte(c)
				if m, fault := look.Module(broken); fault == nil {
					runTyped(t, d, m)
					ran++
				}
			}
		}
	}
	if ran < 1000 {
		t.Errorf("only %d modules were run", ran)
	}
}
