package stoker_test

import (
	"strings"
	"testing"

	"stoker/api"
	"stoker/stoker"
)

// trapping is code that comes to a trap; it takes nothing and leaves nothing on the stack.
type trapping struct {
	trap api.Trap
	code string
}

// traps have the code of each way to come to a trap. For too many calls in one another it must stand in a function 0 that takes an I32.
func traps() []trapping {
	return []trapping{
		{api.Unreachable, "00"},
		{api.Divide, "4101 4100 6d 1a"}, {api.Divide, "4101 4100 6e 1a"}, {api.Divide, "4101 4100 6f 1a"}, {api.Divide, "4101 4100 70 1a"},
		{api.Divide, "4201 4200 7f 1a"}, {api.Divide, "4201 4200 80 1a"}, {api.Divide, "4201 4200 81 1a"}, {api.Divide, "4201 4200 82 1a"},
		{api.Overflow, "418080808078 417f 6d 1a"}, {api.Overflow, "428080808080808080807f 427f 7f 1a"},
		{api.Bounds, "418002 2800 1a"}, {api.Bounds, "418002 2900 1a"}, {api.Bounds, "418002 2c00 1a"}, {api.Bounds, "418002 2d00 1a"},
		{api.Bounds, "418002 4101 3600"}, {api.Bounds, "418002 4201 3700"}, {api.Bounds, "418002 4101 3a00"},
		// Some of the bytes lie in the memory, the last ones do not.
		{api.Bounds, "3f 4106 74 4103 6b 417f 3600"}, {api.Bounds, "3f 4106 74 4107 6b 427f 3700"},
		{api.Fuel, "0340 0c00 0b"},
		{api.Calls, "4100 1000 1a"},
		{api.Keys, nineKeys()},
	}
}

func nineKeys() string {
	code := ""
	for n := range byte(api.MaxKeys + 1) {
		code += "42" + digits(20+n) + "4201 e1"
	}
	return code
}

// changes have the code of each way to change something.
func changes() []string {
	return []string{
		"4105 4109 3a00", "4104 4109 3600", "4108 4209 3700",
		"4101 40 1a", "4101 40 1a 418001 4109 3a00",
		"4109 2400", "4209 2401",
		"4203 4209 e1", "4201 4209 e1",
	}
}

func everything() string { return strings.Join(changes(), " ") }

// deep changes and traps in its function 0: in each call down to the depth it is given it changes, and traps in the last.
// Function 1 traps behind an inner call that has come to its end. The others: just the change; a key's value; a beginning.
func deep(change, trap string) []byte {
	return paged(1, "02 7f01 05 7e01 06",
		function{"i:i", "", change + "2000 45 0440" + trap + "05 2000 4101 6b 1000 1a 0b 4107"},
		function{"i:i", "", "1002 0240" + trap + "0b 4107"},
		function{":", "", change},
		function{"l:l", "", "2000 e0"},
		function{":", "", "4101 40 1a 4103 4111 3a00 4110 2400 4211 2401 4201 4203 e1 4202 4204 e1"})
}

// begun is an instance of deep in which everything has been changed already.
func begun(t *testing.T, s *stoker.Store, m *stoker.Module) *stoker.Instance {
	t.Helper()
	i := s.Start(m)
	gives(t, i, api.Reply{Used: 16}, 16, 4)
	return i
}

// unchanged wants a call to trap and to leave both instances as they were.
func unchanged(t *testing.T, s *stoker.Store, i, beside *stoker.Instance, trap api.Trap, f int, depth uint64) {
	t.Helper()
	own, other := ask(s, i), ask(s, beside)
	got := i.Call(f, []uint64{depth}, 2000)
	if got.Err != api.OK || got.Trap != trap || got.Value != 0 || got.Used == 0 {
		t.Fatalf("Call(%d, %d) = %+v, want trap %d", f, depth, got, trap)
	}
	if now := ask(s, i); !now.same(own) {
		t.Errorf("Call(%d, %d) = %+v has made %v of %v", f, depth, got, now, own)
	}
	if now := ask(s, beside); !now.same(other) {
		t.Errorf("Call(%d, %d) = %+v has made %v of %v of another instance", f, depth, got, now, other)
	}
	gives(t, beside, api.Reply{Value: 3, Used: 2}, 2, 3, 1)
	gives(t, beside, api.Reply{Used: 2}, 2, 3, 3)
	gives(t, beside, api.Reply{Used: 2}, 2, 3, 20)
}

func TestNothingIsLeftBehind(t *testing.T) {
	for _, c := range traps() {
		for _, change := range append(changes(), everything()) {
			t.Run(c.code+" behind "+change, func(t *testing.T) {
				m := good(t, deep(change, c.code))
				s := stoker.NewStore()
				i, j := begun(t, s, m), begun(t, s, m)
				for _, depth := range []uint64{0, 1, api.MaxCalls - 1} {
					unchanged(t, s, i, j, c.trap, 0, depth)
					unchanged(t, s, j, i, c.trap, 0, depth)
				}
				unchanged(t, s, i, j, c.trap, 1, 0)
				hasKeys(t, s, 1, 2)
				hasMemory(t, s.Start(m), make([]byte, 64))
			})
		}
	}
}

// TestFirstCallTraps has nothing in the store, and memory and globals as they are at first.
func TestFirstCallTraps(t *testing.T) {
	for _, c := range traps() {
		data := deep(everything(), c.code)
		m := good(t, data)
		s := stoker.NewStore()
		i := s.Start(m)
		first := ask(s, i)
		if got := holds(t, data, s, i, 0, []uint64{2}, 5000); got.Trap != c.trap {
			t.Errorf("%s: %+v, want trap %d", c.code, got, c.trap)
		}
		hasKeys(t, s)
		hasMemory(t, i, make([]byte, 64))
		if got := ask(s, s.Start(m)); !got.same(first) {
			t.Errorf("%s: a new instance has %v, want %v", c.code, got, first)
		}
	}
}

func TestWhatComesToItsEndStands(t *testing.T) {
	for _, c := range []struct {
		f    int
		args []uint64
	}{{2, nil}, {0, []uint64{0}}, {0, []uint64{3}}, {1, []uint64{0}}} {
		m := good(t, deep(everything(), "01"))
		s := stoker.NewStore()
		i, j := begun(t, s, m), begun(t, s, m)
		beside := j.Memory()
		if got := i.Call(c.f, c.args, 2000); got.Err != api.OK || got.Trap != api.None {
			t.Fatalf("Call(%d, %d) = %+v", c.f, c.args, got)
		}
		memory := make([]byte, 256)
		memory[3], memory[4], memory[8], memory[128] = 17, 9, 9, 9
		hasMemory(t, i, memory)
		hasGlobals(t, i, 9, 9)
		hasKeys(t, s, 1, 2, 3)
		hasValue(t, s, 1, 9, true)
		hasValue(t, s, 2, 4, true)
		hasValue(t, s, 3, 9, true)
		// The other instance shares the keys alone.
		hasMemory(t, j, beside)
		hasGlobals(t, j, 16, 17)
		gives(t, j, api.Reply{Value: 9, Used: 2}, 2, 3, 1)
		gives(t, j, api.Reply{Value: 9, Used: 2}, 2, 3, 3)
	}
}

// TestFuelEndsAnywhere lets the fuel end at every instruction of a call; all but the last call find the same.
func TestFuelEndsAnywhere(t *testing.T) {
	m := good(t, deep(everything(), "01"))
	s := stoker.NewStore()
	i, j := begun(t, s, m), begun(t, s, m)
	before, beside := ask(s, i), ask(s, j)
	other := stoker.NewStore()
	want := begun(t, other, m).Call(0, []uint64{3}, api.MaxFuel)
	if want.Err != api.OK || want.Trap != api.None || want.Value != 7 {
		t.Fatalf("with all fuel: %+v", want)
	}
	for fuel := range want.Used {
		gives(t, i, api.Reply{Trap: api.Fuel, Used: fuel}, fuel, 0, 3)
		if !ask(s, i).same(before) || !ask(s, j).same(beside) {
			t.Fatalf("with fuel %d something was left behind", fuel)
		}
	}
	gives(t, i, want, want.Used, 0, 3)
	hasKeys(t, s, 1, 2, 3)
	hasGlobals(t, i, 9, 9)
}

func TestFullStoreAndATrap(t *testing.T) {
	s := stoker.NewStore()
	m := good(t, module("00",
		function{"ll:", "", "2000 2001 e1"},
		function{"ll:", "", "4200 2001 e1 4201 2001 e1 2000 2001 e1 00"}))
	i, j := s.Start(m), s.Start(m)
	for n := range uint64(api.MaxKeys) {
		gives(t, j, api.Reply{Used: 3}, 9, 0, n, n+50)
	}
	gives(t, i, api.Reply{Trap: api.Keys, Used: 9}, 20, 1, 99, 7)
	gives(t, i, api.Reply{Trap: api.Unreachable, Used: 10}, 20, 1, 5, 7)
	hasKeys(t, s, 0, 1, 2, 3, 4, 5, 6, 7)
	for n := range int64(api.MaxKeys) {
		hasValue(t, s, n, n+50, true)
	}
}

// TestRoomAfterATrap: keys and pages that a call took ahead of its trap are free again.
func TestRoomAfterATrap(t *testing.T) {
	s := stoker.NewStore()
	i := startOn(t, s, paged(1, "00",
		function{"l:", "", "4103 40 1a" + strings.Repeat("2000 2000 e1 2000 4201 7c 2100", api.MaxKeys) + "00"},
		function{"l:i", "", strings.Repeat("2000 2000 e1 2000 4201 7c 2100", api.MaxKeys) + "4103 40"}))
	for n := range uint64(5) {
		gives(t, i, api.Reply{Trap: api.Unreachable, Used: 3 + 7*api.MaxKeys + 1}, 100, 0, 10*n)
	}
	hasKeys(t, s)
	gives(t, i, api.Reply{Value: 1, Used: 7*api.MaxKeys + 2}, 100, 1, 3)
	hasKeys(t, s, 3, 4, 5, 6, 7, 8, 9, 10)
	hasMemory(t, i, make([]byte, 256))
}

// TestAsIfNotCalled makes the same calls with others that trap between them, and without.
func TestAsIfNotCalled(t *testing.T) {
	data := paged(1, "01 7e01 05",
		// Adds the first number to a global, to eight bytes of memory, and to the key that the second is; divides by the third.
		function{"lll:l", "", "2300 2000 7c 2400 4108 4108 2900 2000 7c 3700 2001 2001 e0 2000 7c e1 4101 40 1a 2300 2002 80"})
	answers := func(trapping bool) ([]api.Reply, []whole) {
		m := good(t, data)
		s := stoker.NewStore()
		i, j := s.Start(m), s.Start(m)
		list := []api.Reply{}
		for n := range uint64(20) {
			if trapping {
				gives(t, i, api.Reply{Trap: api.Divide, Used: 22}, 50, 0, n, n%5, 0)
				gives(t, j, api.Reply{Trap: api.Fuel, Used: int(n)}, int(n), 0, n, n%7, 1)
			}
			list = append(list, i.Call(0, []uint64{n, n % 3, 1}, 50), j.Call(0, []uint64{n, n % 4, n + 1}, 50))
		}
		return list, []whole{ask(s, i), ask(s, j)}
	}
	with, left := answers(true)
	without, want := answers(false)
	for n := range without {
		if with[n] != without[n] || without[n].Trap != api.None {
			t.Errorf("answer %d: %+v, without traps between them %+v", n, with[n], without[n])
		}
	}
	if !left[0].same(want[0]) || !left[1].same(want[1]) {
		t.Errorf("%v is left, without traps between the calls %v", left, want)
	}
}
