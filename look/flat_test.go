package look

import (
	"encoding/hex"
	"slices"
	"strings"
	"testing"

	"stoker/code"
)

func unhex(t *testing.T, digits string) []byte {
	t.Helper()
	b, err := hex.DecodeString(strings.ReplaceAll(digits, " ", ""))
	if err != nil {
		t.Fatal(err)
	}
	return b
}

// Types 0 to 3: nothing; an I32; two I32 to an I32; an I64 to an I64.
const someTypes = "53544b01 04 00 00  00 01 7f  02 7f 7f 01 7f  01 7e 01 7e"

// withBodies makes a module of the types above; funcs, globals and pages are given as they stand there, bodies without their sizes.
func withBodies(t *testing.T, rest string, bodies ...string) []byte {
	t.Helper()
	out := unhex(t, someTypes+rest)
	for _, digits := range bodies {
		body := unhex(t, digits)
		out = append(append(out, byte(len(body))), body...)
	}
	return out
}

func flat(t *testing.T, data []byte) *code.Module {
	t.Helper()
	m, fault := Module(data)
	if fault != nil {
		t.Fatalf("% x: %v", data, *fault)
	}
	return m
}

func TestFlatLists(t *testing.T) {
	op := func(op byte) code.Instr { return code.Instr{Op: op} }
	num := func(op byte, n uint64) code.Instr { return code.Instr{Op: op, Num: n} }
	jump := func(op byte, to, height, keep int) code.Instr {
		return code.Instr{Op: op, Jump: code.Jump{To: to, Height: height, Keep: keep}}
	}
	for _, c := range []struct {
		name, body string
		want       []code.Instr
	}{
		{"numbers", "00 417f 1a 427f a7 0b", []code.Instr{num(0x41, 1<<32-1), op(0x1a), num(0x42, 1<<64-1), op(0xa7), op(0x0b)}},
		{"address", "00 4100 28ffffffff0f 0b", []code.Instr{num(0x41, 0), num(0x28, 1<<32-1), op(0x0b)}},
		{"END of a block is left out", "00 0240 01 0b 4105 0b", []code.Instr{op(0x02), op(0x01), num(0x41, 5), op(0x0b)}},
		{"branch out of a block", "00 4107 027f 4101 4102 0c00 0b 6a 0b",
			[]code.Instr{num(0x41, 7), op(0x02), num(0x41, 1), num(0x41, 2), jump(0x0c, 5, 1, 1), op(0x6a), op(0x0b)}},
		{"branch out of two blocks", "00 4107 027f 4101 0240 4102 0c01 0b 0b 6a 0b",
			[]code.Instr{num(0x41, 7), op(0x02), num(0x41, 1), op(0x02), num(0x41, 2), jump(0x0c, 6, 1, 1), op(0x6a), op(0x0b)}},
		{"branch back", "00 4107 0340 4101 4102 0d00 1a 0b 0b",
			[]code.Instr{num(0x41, 7), op(0x03), num(0x41, 1), num(0x41, 2), jump(0x0d, 2, 1, 0), op(0x1a), op(0x0b)}},
		{"branch to the body", "00 4107 027f 4101 0c01 0b 6a 0b",
			[]code.Instr{num(0x41, 7), op(0x02), num(0x41, 1), jump(0x0c, 5, 0, 1), op(0x6a), op(0x0b)}},
		{"return", "00 4107 0340 4101 0f 0b 0b",
			[]code.Instr{num(0x41, 7), op(0x03), num(0x41, 1), jump(0x0c, 4, 0, 1), op(0x0b)}},
		{"IF alone", "00 4107 4101 0440 01 0b 0b",
			[]code.Instr{num(0x41, 7), num(0x41, 1), jump(0x04, 4, 1, 0), op(0x01), op(0x0b)}},
		{"IF and ELSE", "00 4101 047f 4102 05 4103 0b 0b",
			[]code.Instr{num(0x41, 1), jump(0x04, 4, 0, 0), num(0x41, 2), jump(0x05, 5, 0, 1), num(0x41, 3), op(0x0b)}},
		{"branches out of both parts", "00 4101 047f 4102 0c00 05 4103 4104 0d00 0b 0b",
			[]code.Instr{num(0x41, 1), jump(0x04, 5, 0, 0), num(0x41, 2), jump(0x0c, 8, 0, 1), jump(0x05, 8, 0, 1), num(0x41, 3), num(0x41, 4), jump(0x0d, 8, 0, 1), op(0x0b)}},
		{"table", "00 4107 0340 0240 4101 0e02 01 00 01 0b 0b 0b",
			[]code.Instr{num(0x41, 7), op(0x03), op(0x02), num(0x41, 1), num(0x0e, 2), jump(0x0c, 2, 1, 0), jump(0x0c, 8, 1, 0), jump(0x0c, 2, 1, 0), op(0x0b)}},
		{"locals", "01 7f 4101 2100 4102 2200 1a 2000 0b", []code.Instr{num(0x41, 1), num(0x21, 0), num(0x41, 2), num(0x22, 0), op(0x1a), num(0x20, 0), op(0x0b)}},
		{"choice", "00 4101 4102 4103 1b 0b", []code.Instr{num(0x41, 1), num(0x41, 2), num(0x41, 3), op(0x1b), op(0x0b)}},
		{"call", "00 1000 0b", []code.Instr{num(0x10, 0), op(0x0b)}},
		{"trap", "00 00 0b", []code.Instr{op(0x00), op(0x0b)}},
	} {
		m := flat(t, withBodies(t, "01 01 00 00", c.body))
		if !slices.Equal(m.Code, c.want) {
			t.Errorf("%s: %v, want %v", c.name, m.Code, c.want)
		}
	}
}

func TestModuleIsOneList(t *testing.T) {
	m := flat(t, withBodies(t, "03 02 00 03  03 7f00 7f 7e01 7f 7f01 05  03",
		"02 7e7f 2000 2001 6a 0b", "00 2302 2402 0b", "00 2000 0c00 0b"))
	if want := []uint64{1<<32 - 1, 1<<64 - 1, 5}; !slices.Equal(m.Globals, want) {
		t.Errorf("globals %x, want %x", m.Globals, want)
	}
	if m.Pages != 3 {
		t.Errorf("%d pages, want 3", m.Pages)
	}
	for n, want := range []code.Func{{Locals: 4, Entry: 0}, {Locals: 0, Entry: 4}, {Locals: 1, Entry: 7}} {
		if f := m.Funcs[n]; f.Locals != want.Locals || f.Entry != want.Entry {
			t.Errorf("function %d: %d locals, entry %d, want %d, %d", n, f.Locals, f.Entry, want.Locals, want.Entry)
		}
	}
	if want := []code.Instr{{Op: code.GlobalGet, Num: 2}, {Op: code.GlobalSet, Num: 2}, {Op: code.End}}; !slices.Equal(m.Code[4:7], want) {
		t.Errorf("the second function: %v, want %v", m.Code[4:7], want)
	}
	if at := m.Code[8].Jump.To; at != 9 || m.Code[9].Op != code.End {
		t.Errorf("the branch of the last function goes to %d", at)
	}
}

// follow goes along all ways through a function and wants each place of the list to be met with one height of the stack alone.
func follow(t *testing.T, m *code.Module, f code.Func) {
	t.Helper()
	heights := map[int]int{}
	type state struct{ at, height int }
	todo := []state{{f.Entry, 0}}
	for len(todo) > 0 {
		s := todo[len(todo)-1]
		todo = todo[:len(todo)-1]
		if s.at < 0 || s.at >= len(m.Code) || s.height < 0 {
			t.Fatalf("place %d met with height %d", s.at, s.height)
		}
		if old, met := heights[s.at]; met {
			if old != s.height {
				t.Fatalf("place %d met with heights %d and %d", s.at, old, s.height)
			}
			continue
		}
		heights[s.at] = s.height
		in := m.Code[s.at]
		if in.Op == code.End {
			if s.height != len(f.Type.Results) {
				t.Fatalf("the function ends with height %d", s.height)
			}
			continue
		}
		goes, height := ways(m, in, s.height)
		if goes {
			todo = append(todo, state{s.at + 1, height})
		}
		for _, j := range jumps(m, s.at) {
			if height < j.Height+j.Keep {
				t.Fatalf("the branch at %d finds height %d, leaves %d", s.at, height, j.Height+j.Keep)
			}
			todo = append(todo, state{j.To, j.Height + j.Keep})
		}
	}
}

// ways tells whether an instruction may go on to the next one, and the height behind it.
func ways(m *code.Module, in code.Instr, height int) (bool, int) {
	switch in.Op {
	case code.Unreachable, code.Branch, code.Else:
		return false, height
	case code.BranchTable:
		return false, height - 1
	case code.If, code.BranchIf, code.Drop, code.LocalSet, code.GlobalSet:
		return true, height - 1
	case code.Select:
		return true, height - 2
	case code.LocalGet, code.GlobalGet:
		return true, height + 1
	case code.Call:
		typ := m.Funcs[in.Num].Type
		return true, height - len(typ.Params) + len(typ.Results)
	}
	shape, _ := find(in.Op)
	return true, height - len(shape.takes) + len(shape.gives)
}

func jumps(m *code.Module, at int) []code.Jump {
	switch in := m.Code[at]; in.Op {
	case code.If, code.Else, code.Branch, code.BranchIf:
		return []code.Jump{in.Jump}
	case code.BranchTable:
		list := []code.Jump{}
		for _, in := range m.Code[at+1:][:in.Num+1] {
			if in.Op == code.Branch {
				list = append(list, in.Jump)
			}
		}
		return list
	}
	return nil
}

// TestListsHoldTogether breaks modules byte by byte and follows those that are still ones.
func TestListsHoldTogether(t *testing.T) {
	loaded := 0
	for _, data := range [][]byte{
		withBodies(t, "01 01 00 00", "00 4107 027f 4101 4102 0d00 4101 0d01 0c00 0b 6a 0b"),
		withBodies(t, "01 02 00 01", "01 7e 2000 047f 2001 4103 0e02 000100 05 0340 2000 0d00 4104 2000 0d01 1a 0b 4103 0b 0b"),
		withBodies(t, "02 02 03 01 7e01 05 01", "00 2000 2001 4101 1b 2000 047f 4101 05 2001 0b 1000 0f 0b", "01 7e 2000 2400 2300 2201 4200 1a 0b"),
		withBodies(t, "01 00 00 00", "00 0240 0340 4101 0440 0c02 05 0c01 0b 0b 4100 0d01 0b 0b"),
	} {
		flat(t, data)
		for at := range data {
			for c := range 256 {
				broken := slices.Clone(data)
				broken[at] = byte(c)
				m, fault := Module(broken)
				if fault != nil {
					continue
				}
				loaded++
				for _, f := range m.Funcs {
					follow(t, m, f)
				}
			}
		}
	}
	if loaded < 1000 {
		t.Errorf("only %d modules were followed", loaded)
	}
}
