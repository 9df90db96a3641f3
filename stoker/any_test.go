package stoker_test

import (
	"bytes"
	"slices"
	"testing"

	"stoker/api"
	"stoker/stoker"
)

// busy are modules that use all that a call may change.
func busy() [][]byte {
	return append(samples(),
		counting(), cells(), growing(1), shelf(),
		paged(2, "02 7f01 05 7e01 06",
			function{"i:i", "", "2000 45 047f 4100 05 2000 4101 6b 1000 4101 6a 0b"},
			function{"il:l", "i", "0340 2001 a7 2000 3600 2000 4104 6a 2200 4120 49 0d00 0b 2001 2001 e1 2301 2001 2401 2300 41ff00 6a 2400"},
			function{"ii:i", "", "0240 0240 2000 0e02 000100 0b 2000 2001 6d 0f 0b 2000 2001 6f 1000"}))
}

// tries are arguments for a function: all of them the same number.
func tries(params []byte) [][]uint64 {
	out := [][]uint64{}
	for _, n := range []uint64{0, 1, 5, 60, greatest32} {
		out = append(out, slices.Repeat([]uint64{n}, len(params)))
	}
	return out
}

// whole is all that can be asked of an instance and its store.
type whole struct {
	memory  []byte
	globals []uint64
	keys    []int64
	values  []int64
}

func ask(s *stoker.Store, i *stoker.Instance) whole {
	out := whole{memory: i.Memory(), globals: i.Globals(), keys: s.Keys()}
	for _, key := range out.keys {
		value, _ := s.Get(key)
		out.values = append(out.values, value)
	}
	return out
}

func (w whole) same(other whole) bool {
	return bytes.Equal(w.memory, other.memory) && slices.Equal(w.globals, other.globals) &&
		slices.Equal(w.keys, other.keys) && slices.Equal(w.values, other.values)
}

// holds wants of a call what is so whatever the code is.
func holds(t *testing.T, data []byte, s *stoker.Store, i *stoker.Instance, f int, args []uint64, fuel int) api.Reply {
	t.Helper()
	before := ask(s, i)
	got := i.Call(f, args, fuel)
	after := ask(s, i)
	switch {
	case got.Err != api.OK || got.Trap < api.None || got.Trap > api.Keys:
		t.Fatalf("% x: Call(%d, %d, %d) = %+v", data, f, args, fuel, got)
	case got.Used < 0 || got.Used > fuel || got.Trap == api.Fuel && got.Used != fuel:
		t.Fatalf("% x: Call(%d, %d, %d) burned %+v", data, f, args, fuel, got)
	case got.Trap != api.None && (got.Value != 0 || !after.same(before)):
		t.Fatalf("% x: Call(%d, %d, %d) = %+v left something behind: %v, then %v", data, f, args, fuel, got, before, after)
	case len(after.memory) > api.MaxPages*api.PageBytes || len(after.keys) > api.MaxKeys || !slices.IsSorted(after.keys):
		t.Fatalf("% x: Call(%d, %d, %d) left %v", data, f, args, fuel, after)
	}
	return got
}

// narrowResult wants a result of the function's type.
func narrowResult(t *testing.T, data []byte, results []byte, got api.Reply) {
	t.Helper()
	if len(results) == 0 && got.Value != 0 || string(results) == "\x7f" && got.Value > greatest32 {
		t.Fatalf("% x: a result of the type %x: %+v", data, results, got)
	}
}

// runAll calls all functions of a module, each with little fuel and with more.
func runAll(t *testing.T, data []byte, m *stoker.Module) {
	t.Helper()
	for f := range m.Funcs() {
		params, results, _ := m.Type(f)
		for _, args := range tries(params) {
			s, more := stoker.NewStore(), stoker.NewStore()
			i, j := s.Start(m), more.Start(m)
			got := holds(t, data, s, i, f, args, 60)
			again := holds(t, data, more, j, f, args, 600)
			narrowResult(t, data, results, got)
			narrowResult(t, data, results, again)
			if got.Trap != api.Fuel && (again != got || !ask(more, j).same(ask(s, i))) {
				t.Fatalf("% x: Call(%d, %d) = %+v, with more fuel %+v", data, f, args, got, again)
			}
			if got.Trap == api.Fuel && again.Used <= got.Used {
				t.Fatalf("% x: Call(%d, %d) = %+v, with more fuel %+v", data, f, args, got, again)
			}
		}
	}
}

// TestBrokenModulesRun breaks modules byte by byte and runs those that are still ones.
func TestBrokenModulesRun(t *testing.T) {
	ran := 0
	for _, data := range busy() {
		good(t, data)
		for at := range data {
			for c := range 256 {
				broken := bytes.Clone(data)
				broken[at] = byte(c)
				if m, _, _ := stoker.Load(broken); m != nil {
					runAll(t, broken, m)
					ran++
				}
			}
		}
	}
	if ran < 5000 {
		t.Errorf("only %d modules were run", ran)
	}
}
