package stoker_test

import (
	"slices"
	"strings"
	"testing"

	"stoker/api"
	"stoker/stoker"
)

// called is one of several calls of two instances.
type called struct {
	which, f int
	args     []uint64
	fuel     int
}

// callsOf are calls of all functions of a module, by two instances in turn.
func callsOf(m *stoker.Module) []called {
	out := []called{}
	for f := range m.Funcs() {
		params, _, _ := m.Type(f)
		for n, args := range tries(params) {
			out = append(out, called{n % 2, f, args, 500}, called{1 - n%2, f, args, 7 * n})
		}
	}
	return out
}

// makeCalls makes calls on a new store with two new instances; it tells the answers and what both are in the end.
func makeCalls(m *stoker.Module, list []called) ([]api.Reply, []whole) {
	s := stoker.NewStore()
	instances := []*stoker.Instance{s.Start(m), s.Start(m)}
	out := []api.Reply{}
	for _, c := range list {
		out = append(out, instances[c.which].Call(c.f, c.args, c.fuel))
	}
	return out, []whole{ask(s, instances[0]), ask(s, instances[1])}
}

func sameWholes(a, b []whole) bool { return slices.EqualFunc(a, b, whole.same) }

// moreFuel makes calls, then one more with much fuel, with more, and with less: it does the same wherever the fuel suffices.
func moreFuel(t *testing.T, data []byte, before []called, last called) {
	t.Helper()
	m := good(t, data)
	with := func(fuel int) (api.Reply, []whole) {
		last.fuel = fuel
		answers, left := makeCalls(m, append(slices.Clip(before), last))
		return answers[len(before)], left
	}
	want, left := with(3000)
	_, untouched := makeCalls(m, before)
	enough := want.Used
	if want.Trap == api.Fuel {
		enough = 3000
	} else {
		for _, fuel := range []int{enough, enough + 1, 2*enough + 7, api.MaxFuel} {
			if got, now := with(fuel); got != want || !sameWholes(now, left) {
				t.Fatalf("% x: %v with fuel %d: %+v and %v, with 3000: %+v and %v", data, last, fuel, got, now, want, left)
			}
		}
	}
	for fuel := range enough {
		if fuel > 40 && fuel < enough-2 {
			continue
		}
		if got, now := with(fuel); got != (api.Reply{Trap: api.Fuel, Used: fuel}) || !sameWholes(now, untouched) {
			t.Fatalf("% x: %v with fuel %d: %+v and %v, which were %v; with 3000: %+v", data, last, fuel, got, now, untouched, want)
		}
	}
}

func TestMoreFuelBehindChanges(t *testing.T) {
	begin := []called{{0, 4, nil, 16}, {1, 4, nil, 16}}
	for _, c := range append(traps(), trapping{api.None, "01"}) {
		data := deep(everything(), c.code)
		for _, depth := range []uint64{0, 1, api.MaxCalls - 1, api.MaxCalls} {
			moreFuel(t, data, begin, called{0, 0, []uint64{depth}, 0})
		}
		moreFuel(t, data, nil, called{0, 0, []uint64{2}, 0})
		moreFuel(t, data, begin, called{1, 1, []uint64{0}, 0})
	}
}

func TestMoreFuelOfMadeModules(t *testing.T) {
	for seed := range uint64(60) {
		data := made(seed)
		m := good(t, data)
		all := callsOf(m)
		for n := 0; n < len(all); n += 4 {
			moreFuel(t, data, all[:n/2], all[n])
		}
	}
}

// TestAllTheFuel has a call that burns just all that can be given.
func TestAllTheFuel(t *testing.T) {
	// Ten besides the loop, and nine each time round.
	data := module("01 7e01 00", function{"i:i", "", strings.Repeat("01", 8) + "0340 2300 4201 7c 2400 2000 4101 6b 2200 0d00 0b 4105"})
	const most = (api.MaxFuel - 10) / 9
	for _, n := range []int{1, 2, 1000, most - 1} {
		burns(t, data, api.Reply{Value: 5, Used: 10 + 9*n}, 0, uint64(n))
	}
	i := begin(t, data)
	gives(t, i, api.Reply{Trap: api.Fuel, Used: api.MaxFuel}, api.MaxFuel, 0, most+1)
	gives(t, i, api.Reply{Trap: api.Fuel, Used: api.MaxFuel}, api.MaxFuel, 0, 0)
	gives(t, i, api.Reply{Trap: api.Fuel, Used: api.MaxFuel - 1}, api.MaxFuel-1, 0, most)
	hasGlobals(t, i, 0)
	gives(t, i, api.Reply{Value: 5, Used: api.MaxFuel}, api.MaxFuel, 0, most)
	hasGlobals(t, i, most)
}

// TestSameCallsSameAnswers loads a module twice and makes the same calls, with others on another store between them.
func TestSameCallsSameAnswers(t *testing.T) {
	for seed := range uint64(200) {
		data := made(seed)
		m, again := good(t, data), good(t, data)
		list := callsOf(m)
		want, left := makeCalls(m, list)
		for _, m := range []*stoker.Module{m, again} {
			other := made(seed + 1000)
			makeCalls(good(t, other), callsOf(good(t, other)))
			if got, now := makeCalls(m, list); !slices.Equal(got, want) || !sameWholes(now, left) {
				t.Fatalf("% x: %v, then %v; %v is left, then %v", data, want, got, left, now)
			}
		}
	}
}
