package stoker_test

import (
	"math"
	"slices"
	"testing"

	"stoker/api"
	"stoker/stoker"
)

func TestErrorsOfCall(t *testing.T) {
	i := begin(t, paged(1, "01 7f01 05",
		function{"il:l", "", "2001"}, function{":", "", "4106 2400"}, function{"li:i", "", "2001"}))
	const beyond = 1 << 32
	for _, c := range []struct {
		f    int
		args []uint64
		fuel int
		err  api.Errno
	}{
		// All three are wrong, then the last two, then the last.
		{-1, nil, -1, api.ErrFunc}, {3, []uint64{beyond}, api.MaxFuel + 1, api.ErrFunc}, {math.MinInt, nil, 5, api.ErrFunc}, {math.MaxInt, nil, 5, api.ErrFunc},
		{1<<32 + 1, nil, 5, api.ErrFunc}, {3, nil, 5, api.ErrFunc},
		{0, nil, -1, api.ErrArgs}, {0, []uint64{1}, api.MaxFuel + 1, api.ErrArgs}, {0, []uint64{1, 2, 3}, -1, api.ErrArgs}, {1, []uint64{0}, -1, api.ErrArgs},
		{0, []uint64{beyond, 2}, -1, api.ErrArgs}, {0, []uint64{math.MaxUint64, 2}, 5, api.ErrArgs}, {2, []uint64{2, beyond}, 5, api.ErrArgs}, {0, make([]uint64, 5000), 5, api.ErrArgs},
		{0, []uint64{1, 2}, -1, api.ErrFuel}, {0, []uint64{1, 2}, api.MaxFuel + 1, api.ErrFuel}, {0, []uint64{1, 2}, math.MinInt, api.ErrFuel}, {0, []uint64{1, 2}, math.MaxInt, api.ErrFuel},
		{1, nil, -1, api.ErrFuel}, {1, []uint64{}, api.MaxFuel + 1, api.ErrFuel},
	} {
		gives(t, i, api.Reply{Err: c.err}, c.fuel, c.f, c.args...)
	}
	hasGlobals(t, i, 5)
	hasMemory(t, i, make([]byte, 64))
}

func TestEdgesWithoutErrors(t *testing.T) {
	i := begin(t, module("00", function{"il:l", "", "2001"}, function{":", "", ""}))
	gives(t, i, api.Reply{Value: math.MaxUint64, Used: 1}, 1, 0, greatest32, math.MaxUint64)
	gives(t, i, api.Reply{Trap: api.Fuel}, 0, 0, 0, 0)
	gives(t, i, api.Reply{}, 0, 1)
	gives(t, i, api.Reply{}, api.MaxFuel, 1)
	if got := i.Call(1, []uint64{}, 0); got != (api.Reply{}) {
		t.Errorf("with an empty list: %+v", got)
	}
}

func TestNoFunctions(t *testing.T) {
	i := begin(t, module("01 7f00 05"))
	for f := -1; f < 2; f++ {
		gives(t, i, api.Reply{Err: api.ErrFunc}, 5, f)
	}
	hasMemory(t, i, nil)
	hasGlobals(t, i, 5)
}

// TestNoInstance asks what the calls gave beside an error.
func TestNoInstance(t *testing.T) {
	m, _, _ := stoker.Load(nil)
	i := stoker.NewStore().Start(m)
	gives(t, i, api.Reply{Err: api.ErrFunc}, 5, 0)
	if len(i.Memory()) != 0 || len(i.Globals()) != 0 {
		t.Errorf("no instance has %x, %d", i.Memory(), i.Globals())
	}
}

// TestNeverMade asks things that no call gave.
func TestNeverMade(t *testing.T) {
	var none *stoker.Store
	hasKeys(t, none)
	hasValue(t, none, 1, 0, false)
	m := good(t, shelf())
	for _, i := range []*stoker.Instance{none.Start(m), new(stoker.Instance), new(stoker.Store).Start(new(stoker.Module))} {
		gives(t, i, api.Reply{Err: api.ErrFunc}, 5, 0)
		if len(i.Memory()) != 0 || len(i.Globals()) != 0 {
			t.Errorf("what was never made has %x, %d", i.Memory(), i.Globals())
		}
	}
	s := new(stoker.Store)
	hasKeys(t, s)
	gives(t, s.Start(m), api.Reply{Used: 3}, 5, 0, 1, 2)
	hasValue(t, s, 1, 2, true)
}

func TestListsComeOutNew(t *testing.T) {
	data := paged(1, "02 7f01 05 7e01 06", function{"l:", "", "2000 2000 e1 4107 2400 2000 2401 4101 41ff00 3a00 4101 40 1a"})
	s := stoker.NewStore()
	i := startOn(t, s, data)
	for n := range uint64(3) {
		gives(t, i, api.Reply{Used: 13}, 20, 0, n)
		memory, globals, keys := i.Memory(), i.Globals(), s.Keys()
		for k := range memory[:cap(memory)] {
			memory[:cap(memory)][k] = 99
		}
		for k := range globals[:cap(globals)] {
			globals[:cap(globals)][k] = 99
		}
		for k := range keys[:cap(keys)] {
			keys[:cap(keys)][k] = 99
		}
		want := make([]byte, 64*(n+2))
		want[1] = 127
		hasMemory(t, i, want)
		hasGlobals(t, i, 7, n)
		hasKeys(t, s, []int64{0, 1, 2}[:n+1]...)
	}
}

func TestArgumentsAreNotKept(t *testing.T) {
	// The parameters are set, and there are locals and values behind them.
	i := begin(t, module("01 7e01 00", function{"ll:l", "ll", "2000 2400 4205 2100 4206 2101 4207 2102 4208 2203"}))
	spare := slices.Repeat([]uint64{77}, 64)
	args := spare[:2]
	if got := i.Call(0, args, 20); got != (api.Reply{Value: 8, Used: 10}) {
		t.Errorf("Call = %+v", got)
	}
	if slices.ContainsFunc(spare, func(v uint64) bool { return v != 77 }) {
		t.Errorf("the arguments were written into: %d", spare)
	}
	clear(spare)
	hasGlobals(t, i, 77)
}
