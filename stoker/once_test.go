package stoker_test

import (
	"slices"
	"sync"
	"testing"

	"stoker/api"
	"stoker/stoker"
)

// counting adds its argument to a key, to a global, and to eight bytes of memory. Function 1 does so, too, but traps at the end.
func counting() []byte {
	const count = "4201 4201 e0 2000 7c e1 2300 2000 7c 2400 4100 4100 2900 2000 7c 3700 4201 e0"
	return paged(1, "01 7e01 00", function{"l:l", "", count}, function{"l:l", "", count + "4200 80"})
}

// atOnce has a function run by several goroutines, each with its number.
func atOnce(workers int, work func(w int)) {
	var all sync.WaitGroup
	for w := range workers {
		all.Go(func() { work(w) })
	}
	all.Wait()
}

// counted tells what the global, and what the memory, of a counting instance has counted.
func counted(i *stoker.Instance) (uint64, uint64) {
	memory := i.Memory()
	return i.Globals()[0], uint64(memory[0]) | uint64(memory[1])<<8
}

func TestCallsFromEverywhere(t *testing.T) {
	const workers, times = 8, 200
	m := good(t, counting())
	s := stoker.NewStore()
	instances := []*stoker.Instance{s.Start(m), s.Start(m), s.Start(m)}
	atOnce(workers, func(w int) {
		for n := range times {
			i := instances[(w+n)%len(instances)]
			if got := i.Call(0, []uint64{1}, 100); got.Err != api.OK || got.Trap != api.None || got.Used != 18 {
				t.Errorf("a call = %+v", got)
			}
			i.Memory()
			i.Globals()
			s.Get(int64(len(s.Keys())))
			s.Start(m)
		}
	})
	hasKeys(t, s, 1)
	hasValue(t, s, 1, workers*times, true)
	globals, bytes := uint64(0), uint64(0)
	for _, i := range instances {
		a, b := counted(i)
		globals, bytes = globals+a, bytes+b
	}
	if globals != workers*times || bytes != globals {
		t.Errorf("globals count %d calls, memory %d, want %d", globals, bytes, workers*times)
	}
}

// TestTrapsFromEverywhere has calls that trap, for want of fuel too, between those that count.
func TestTrapsFromEverywhere(t *testing.T) {
	const workers, times = 8, 150
	m := good(t, counting())
	s := stoker.NewStore()
	instances := []*stoker.Instance{s.Start(m), s.Start(m)}
	atOnce(workers, func(w int) {
		for n := range times {
			i := instances[(w+n)%2]
			gives(t, i, api.Reply{Trap: api.Divide, Used: 20}, 100, 1, 1000)
			if got := i.Call(0, []uint64{1}, 18); got.Trap != api.None || got.Used != 18 {
				t.Errorf("a call = %+v", got)
			}
			gives(t, i, api.Reply{Trap: api.Fuel, Used: n % 18}, n%18, 0, 1000)
			gives(t, i, api.Reply{Err: api.ErrArgs}, 100, 0)
			if got, _ := s.Get(1); got > workers*times {
				t.Errorf("a call that trapped is seen: %d", got)
			}
		}
	})
	hasValue(t, s, 1, workers*times, true)
	for _, i := range instances {
		if a, b := counted(i); a != workers*times/2 || b != a {
			t.Errorf("globals count %d calls, memory %d, want %d", a, b, workers*times/2)
		}
	}
}

// TestLongCallsAtOnce has calls that read at their beginning and write at their end: none may come between.
func TestLongCallsAtOnce(t *testing.T) {
	const workers, times, rounds = 6, 20, 1000
	data := module("00", function{"i:", "l", "4201 e0 2101 0340 2000 4101 6b 2200 0d00 0b 4201 2001 4201 7c e1"})
	m := good(t, data)
	s := stoker.NewStore()
	one := s.Start(m)
	atOnce(workers, func(w int) {
		i := one
		if w%2 == 0 {
			i = s.Start(m)
		}
		for range times {
			gives(t, i, api.Reply{Used: 3 + 1 + 5*rounds + 5}, api.MaxFuel, 0, rounds)
		}
	})
	hasKeys(t, s, 1)
	hasValue(t, s, 1, workers*times, true)
}

// TestNoHalfOfACall: what a call does is seen whole or not at all, from outside and by other calls.
func TestNoHalfOfACall(t *testing.T) {
	data := paged(1, "02 7e01 00 7e01 00",
		// A number goes to both globals, to all bytes from the front, and to both keys.
		function{"l:", "i", "2000 2400 0340 2001 2000 a7 3a00 2001 4101 6a 2201 41c000 49 0d00 0b 2000 2401 4201 2000 e1 4202 2000 e1"},
		// The keys' values are the same.
		function{":i", "", "4201 e0 4202 e0 51"})
	m := good(t, data)
	s := stoker.NewStore()
	i, j := s.Start(m), s.Start(m)
	atOnce(8, func(w int) {
		for n := range 60 {
			switch w % 4 {
			case 0, 1:
				[]*stoker.Instance{i, j}[w%2].Call(0, []uint64{uint64(n)}, 1000)
			case 2:
				gives(t, j, api.Reply{Value: 1, Used: 5}, 9, 1)
			case 3:
				memory, globals := i.Memory(), i.Globals()
				if len(slices.Compact(memory)) != 1 || globals[0] != globals[1] {
					t.Errorf("half of a call: memory %x, globals %d", memory, globals)
				}
				if keys := s.Keys(); len(keys) == 1 {
					t.Errorf("half of a call: keys %d", keys)
				}
			}
		}
	})
	hasKeys(t, s, 1, 2)
	hasGlobals(t, i, 59, 59)
}

// TestStoresAtOnce: each of several stores comes to what it comes to alone, though all of them use one module.
func TestStoresAtOnce(t *testing.T) {
	for seed := range uint64(10) {
		data := made(seed)
		m := good(t, data)
		list := callsOf(m)
		want, left := makeCalls(m, list)
		atOnce(8, func(w int) {
			m := m
			if w%2 == 0 {
				m, _, _ = stoker.Load(data)
			}
			for range 3 {
				if got, now := makeCalls(m, list); !slices.Equal(got, want) || !sameWholes(now, left) {
					t.Errorf("% x: alone %v, at once %v; %v is left, at once %v", data, want, got, left, now)
				}
			}
		})
	}
}

// TestSeveralStoresCount has goroutines call instances of all stores in turn; no store counts what another does.
func TestSeveralStoresCount(t *testing.T) {
	const workers, times = 8, 120
	m := good(t, counting())
	stores := []*stoker.Store{stoker.NewStore(), stoker.NewStore(), stoker.NewStore()}
	instances := []*stoker.Instance{}
	for _, s := range stores {
		instances = append(instances, s.Start(m), s.Start(m))
	}
	atOnce(workers, func(w int) {
		for n := range times {
			at := (w + n) % len(instances)
			instances[at].Call(0, []uint64{uint64(at/2 + 1)}, 100)
		}
	})
	for n, s := range stores {
		each := int64(n+1) * workers * times / 3
		hasValue(t, s, 1, each, true)
		a, b := counted(instances[2*n])
		c, d := counted(instances[2*n+1])
		if a+c != uint64(each) || b+d != uint64(each) {
			t.Errorf("store %d: %d and %d, %d and %d, want %d together", n, a, c, b, d, each)
		}
	}
}
