package stoker_test

import (
	"math"
	"slices"
	"testing"

	"stoker/api"
	"stoker/stoker"
)

// shelf has functions that put a key's value, get it, and put two keys of which the second is one more than the first.
func shelf() []byte {
	return module("00",
		function{"ll:", "", "2000 2001 e1"}, function{"l:l", "", "2000 e0"},
		function{"ll:", "", "2000 2001 e1 2000 4201 7c 2001 e1"})
}

func hasKeys(t *testing.T, s *stoker.Store, want ...int64) {
	t.Helper()
	if got := s.Keys(); !slices.Equal(got, want) {
		t.Errorf("Keys() = %d, want %d", got, want)
	}
}

func hasValue(t *testing.T, s *stoker.Store, key, want int64, there bool) {
	t.Helper()
	if got, ok := s.Get(key); got != want || ok != there {
		t.Errorf("Get(%d) = %d, %v, want %d, %v", key, got, ok, want, there)
	}
}

func TestEmptyStore(t *testing.T) {
	s := stoker.NewStore()
	hasKeys(t, s)
	for _, key := range []int64{0, 1, -1, math.MinInt64, math.MaxInt64} {
		hasValue(t, s, key, 0, false)
	}
}

func TestKeysAndValues(t *testing.T) {
	s := stoker.NewStore()
	i := startOn(t, s, shelf())
	gives(t, i, api.Reply{Used: 2}, 2, 1, 5)
	// Asking for a key does not make one.
	hasKeys(t, s)
	least := uint64(1) << 63
	gives(t, i, api.Reply{Used: 3}, 3, 0, least-1, least)
	gives(t, i, api.Reply{Used: 3}, 3, 0, 5, 1<<64-7)
	gives(t, i, api.Reply{Used: 3}, 3, 0, least, 9)
	gives(t, i, api.Reply{Used: 3}, 3, 0, 1<<64-1, 0)
	gives(t, i, api.Reply{Used: 3}, 3, 0, 0, 1)
	hasKeys(t, s, math.MinInt64, -1, 0, 5, math.MaxInt64)
	hasValue(t, s, math.MaxInt64, math.MinInt64, true)
	hasValue(t, s, 5, -7, true)
	hasValue(t, s, math.MinInt64, 9, true)
	// A value of 0 is one, too.
	hasValue(t, s, -1, 0, true)
	hasValue(t, s, -2, 0, false)
	gives(t, i, api.Reply{Value: least, Used: 2}, 2, 1, least-1)
	gives(t, i, api.Reply{Value: 1<<64 - 7, Used: 2}, 2, 1, 5)
	gives(t, i, api.Reply{Used: 2}, 2, 1, 1<<64-1)
	gives(t, i, api.Reply{Used: 3}, 3, 0, 5, 6)
	hasValue(t, s, 5, 6, true)
	hasKeys(t, s, math.MinInt64, -1, 0, 5, math.MaxInt64)
}

func TestMostKeys(t *testing.T) {
	s := stoker.NewStore()
	i := startOn(t, s, shelf())
	want := []int64{}
	for n := range int64(api.MaxKeys) {
		gives(t, i, api.Reply{Used: 3}, 9, 0, uint64(10*n), uint64(n))
		want = append(want, 10*n)
		hasKeys(t, s, want...)
	}
	gives(t, i, api.Reply{Trap: api.Keys, Used: 3}, 9, 0, 5, 1)
	gives(t, i, api.Reply{Trap: api.Keys, Used: 3}, 9, 0, 1<<64-1, 0)
	gives(t, i, api.Reply{Trap: api.Fuel, Used: 2}, 2, 0, 5, 1)
	// A key that is there may have another value, of whatever instance.
	for n := range uint64(api.MaxKeys) {
		gives(t, startOn(t, s, shelf()), api.Reply{Used: 3}, 9, 0, 10*n, n+100)
	}
	gives(t, i, api.Reply{Value: 107, Used: 2}, 9, 1, 70)
	gives(t, i, api.Reply{Used: 2}, 9, 1, 71)
	hasKeys(t, s, want...)
}

func TestKeysWithinOneCall(t *testing.T) {
	s := stoker.NewStore()
	i := startOn(t, s, shelf())
	for n := range uint64(3) {
		gives(t, i, api.Reply{Used: 8}, 8, 2, 10*n, 1)
	}
	gives(t, i, api.Reply{Used: 3}, 3, 0, 50, 1)
	// The first of the two still has room.
	gives(t, i, api.Reply{Trap: api.Keys, Used: 8}, 8, 2, 60, 1)
	gives(t, i, api.Reply{Used: 8}, 8, 2, 50, 2)
	hasKeys(t, s, 0, 1, 10, 11, 20, 21, 50, 51)
}

func TestStoresAreApart(t *testing.T) {
	m := good(t, shelf())
	one, other := stoker.NewStore(), stoker.NewStore()
	i, j, k := one.Start(m), one.Start(m), other.Start(m)
	gives(t, i, api.Reply{Used: 3}, 9, 0, 1, 5)
	gives(t, j, api.Reply{Value: 5, Used: 2}, 9, 1, 1)
	gives(t, k, api.Reply{Used: 2}, 9, 1, 1)
	gives(t, k, api.Reply{Used: 3}, 9, 0, 2, 6)
	hasKeys(t, one, 1)
	hasKeys(t, other, 2)
	hasValue(t, one, 2, 0, false)
	hasValue(t, other, 2, 6, true)
}

func TestInstancesAreApart(t *testing.T) {
	data := paged(1, "01 7f01 05", function{"i:", "", "2000 2400 2000 2000 3a00 4101 40 1a"})
	m := good(t, data)
	s := stoker.NewStore()
	i, j := s.Start(m), s.Start(m)
	gives(t, i, api.Reply{Used: 8}, 9, 0, 7)
	want := make([]byte, 128)
	want[7] = 7
	hasMemory(t, i, want)
	hasMemory(t, j, make([]byte, 64))
	hasMemory(t, s.Start(m), make([]byte, 64))
	hasGlobals(t, i, 7)
	hasGlobals(t, j, 5)
}
