package stoker_test

import (
	"bytes"
	"slices"
	"testing"

	"stoker/api"
	"stoker/stoker"
)

const greatest32 = 1<<32 - 1

// reaching is an instruction that takes or puts so many bytes.
type reaching struct {
	op   byte
	size uint64
	puts string // "i" or "l", if it puts them
}

func reachings() []reaching {
	return []reaching{{0x28, 4, ""}, {0x29, 8, ""}, {0x2c, 1, ""}, {0x2d, 1, ""}, {0x36, 4, "i"}, {0x37, 8, "l"}, {0x3a, 1, "i"}}
}

// at is a module that reaches for the address it is given, with so much added.
func (r reaching) at(pages byte, added string) []byte {
	code := digits(r.op) + added
	switch {
	case r.puts != "":
		return paged(pages, "00", function{"i:", "", "2000" + push(r.puts) + code})
	case r.op == 0x29:
		return paged(pages, "00", function{"i:l", "", "2000" + code})
	}
	return paged(pages, "00", function{"i:i", "", "2000" + code})
}

func (r reaching) used() int { return 2 + len(r.puts) }

func TestEndsOfTheMemory(t *testing.T) {
	adds := map[string]uint64{"00": 0, "01": 1, "09": 9, "40": 64, "8002": 256, "8102": 257, "ffffffff0f": greatest32}
	for _, r := range reachings() {
		for pages := range byte(api.MaxPages + 1) {
			for behind, added := range adds {
				i := begin(t, r.at(pages, behind))
				size := uint64(pages) * api.PageBytes
				for _, address := range []uint64{0, 1, size - added - r.size - 1, size - added - r.size, size - added - r.size + 1, size - added, size - 1, size, 1 << 31, greatest32 - 7, greatest32} {
					// What would be below 0 is no address.
					if address > greatest32 {
						continue
					}
					want := api.Reply{Used: r.used()}
					if address+added+r.size > size {
						want.Trap = api.Bounds
					}
					got := i.Call(0, []uint64{address}, 9)
					// The value hangs on what the calls before have put there.
					got.Value = 0
					if got != want {
						t.Errorf("%x of %d pages at %d and %d = %+v, want %+v", r.op, pages, address, added, got, want)
					}
				}
			}
		}
	}
}

func TestEndsWrittenOut(t *testing.T) {
	for _, c := range []struct {
		op      byte
		pages   byte
		added   string
		address uint64
		trap    api.Trap
	}{
		{0x28, 1, "00", 60, api.None}, {0x28, 1, "00", 61, api.Bounds}, {0x28, 1, "3c", 0, api.None}, {0x28, 1, "3d", 0, api.Bounds},
		{0x29, 1, "00", 56, api.None}, {0x29, 1, "00", 57, api.Bounds},
		{0x2c, 1, "00", 63, api.None}, {0x2c, 1, "00", 64, api.Bounds}, {0x2c, 0, "00", 0, api.Bounds},
		{0x2d, 1, "01", 62, api.None}, {0x2d, 1, "01", 63, api.Bounds}, {0x2d, 4, "00", 255, api.None}, {0x2d, 4, "00", 256, api.Bounds},
		// The sum is not cut off at 32 bits.
		{0x2d, 1, "01", greatest32, api.Bounds}, {0x28, 1, "04", greatest32 - 3, api.Bounds}, {0x37, 1, "ffffffff0f", 1, api.Bounds},
		{0x36, 2, "00", 124, api.None}, {0x36, 2, "00", 125, api.Bounds},
		{0x37, 2, "00", 120, api.None}, {0x37, 2, "00", 121, api.Bounds},
		{0x3a, 2, "00", 127, api.None}, {0x3a, 2, "00", 128, api.Bounds}, {0x3a, 0, "00", 0, api.Bounds},
	} {
		r := reachings()[slices.IndexFunc(reachings(), func(r reaching) bool { return r.op == c.op })]
		burns(t, r.at(c.pages, c.added), api.Reply{Trap: c.trap, Used: r.used()}, 0, c.address)
	}
}

// cells is a module of two pages whose functions 0 to 2 put one, four and eight bytes, and 3 to 6 take them: signed, one, four, eight.
func cells() []byte {
	return paged(2, "00",
		function{"ii:", "", "2000 2001 3a00"}, function{"ii:", "", "2000 2001 3600"}, function{"il:", "", "2000 2001 3700"},
		function{"i:i", "", "2000 2c00"}, function{"i:i", "", "2000 2d00"}, function{"i:i", "", "2000 2800"}, function{"i:l", "", "2000 2900"})
}

func hasMemory(t *testing.T, i *stoker.Instance, want []byte) {
	t.Helper()
	if got := i.Memory(); !bytes.Equal(got, want) {
		t.Errorf("Memory() = %x, want %x", got, want)
	}
}

func hasGlobals(t *testing.T, i *stoker.Instance, want ...uint64) {
	t.Helper()
	if got := i.Globals(); !slices.Equal(got, want) {
		t.Errorf("Globals() = %d, want %d", got, want)
	}
}

func TestBytesGoToMemory(t *testing.T) {
	i := begin(t, cells())
	want := make([]byte, 128)
	hasMemory(t, i, want)
	gives(t, i, api.Reply{Used: 3}, 9, 2, 0, 0x1122334455667788)
	copy(want, unhex("8877665544332211"))
	hasMemory(t, i, want)
	// Just the bytes of the number are written, across the pages too.
	gives(t, i, api.Reply{Used: 3}, 9, 1, 62, 0xdeadbeef)
	copy(want[62:], unhex("efbeadde"))
	hasMemory(t, i, want)
	gives(t, i, api.Reply{Used: 3}, 9, 0, 1, 0xfedcba98)
	want[1] = 0x98
	hasMemory(t, i, want)
	gives(t, i, api.Reply{Used: 3}, 9, 2, 120, 1<<64-2)
	copy(want[120:], unhex("feffffffffffffff"))
	hasMemory(t, i, want)
	gives(t, i, api.Reply{Used: 3}, 9, 1, 124, 0)
	copy(want[124:], unhex("00000000"))
	hasMemory(t, i, want)
}

func TestBytesComeFromMemory(t *testing.T) {
	i := begin(t, cells())
	gives(t, i, api.Reply{Used: 3}, 9, 2, 3, 0xf1e2d3c4b5a69788)
	gives(t, i, api.Reply{Used: 3}, 9, 2, 11, 0x7f80)
	for _, c := range []struct {
		f              int
		address, value uint64
	}{
		{6, 3, 0xf1e2d3c4b5a69788}, {6, 0, 0xc4b5a69788000000}, {6, 4, 0x80f1e2d3c4b5a697},
		{5, 3, 0xb5a69788}, {5, 7, 0xf1e2d3c4}, {5, 12, 0x7f}, {5, 1, 0x97880000},
		{4, 3, 0x88}, {4, 2, 0}, {4, 11, 0x80}, {4, 12, 0x7f},
		{3, 3, 0xffffff88}, {3, 2, 0}, {3, 11, 0xffffff80}, {3, 12, 0x7f}, {3, 10, 0xfffffff1},
	} {
		gives(t, i, api.Reply{Value: c.value, Used: 2}, 9, c.f, c.address)
	}
}

// growing has functions that tell the pages, add some, and put a byte; and one that adds a page and uses it at once.
func growing(pages byte) []byte {
	return paged(pages, "00",
		function{":i", "", "3f"}, function{"i:i", "", "2000 40"}, function{"ii:", "", "2000 2001 3a00"},
		function{"i:i", "", "4101 40 1a 2000 41ff00 3a00 2000 2d00"})
}

func TestPages(t *testing.T) {
	for pages := range uint64(api.MaxPages + 1) {
		for _, more := range []uint64{0, 1, 2, 3, 4, 5, 1 << 26, 1 << 31, greatest32 - 3, greatest32 - 1, greatest32} {
			i := begin(t, growing(byte(pages)))
			gives(t, i, api.Reply{Value: pages, Used: 1}, 1, 0)
			want, after := pages, pages+more
			if after > api.MaxPages {
				want, after = greatest32, pages
			}
			gives(t, i, api.Reply{Trap: api.Fuel, Used: 1}, 1, 1, more)
			gives(t, i, api.Reply{Value: want, Used: 2}, 2, 1, more)
			gives(t, i, api.Reply{Value: after, Used: 1}, 1, 0)
			hasMemory(t, i, make([]byte, after*api.PageBytes))
		}
	}
}

func TestMemoryStaysWhenPagesCome(t *testing.T) {
	i := begin(t, growing(1))
	want := make([]byte, 64, 256)
	for n := range uint64(api.MaxPages - 1) {
		last := uint64(len(want) - 1)
		gives(t, i, api.Reply{Used: 3}, 9, 2, last, n+7)
		want[last] = byte(n + 7)
		gives(t, i, api.Reply{Trap: api.Bounds, Used: 3}, 9, 2, last+1, 1)
		gives(t, i, api.Reply{Value: n + 1, Used: 2}, 9, 1, 1)
		want = want[:len(want)+api.PageBytes]
		hasMemory(t, i, want)
	}
	gives(t, i, api.Reply{Value: greatest32, Used: 2}, 9, 1, 1)
	gives(t, i, api.Reply{Used: 3}, 9, 2, 255, 1)
	gives(t, i, api.Reply{Trap: api.Bounds, Used: 3}, 9, 2, 256, 1)
	want[255] = 1
	hasMemory(t, i, want)
}

func TestNewPageAtOnce(t *testing.T) {
	burns(t, growing(0), api.Reply{Value: 127, Used: 8}, 3, 63)
	burns(t, growing(0), api.Reply{Trap: api.Bounds, Used: 6}, 3, 64)
	burns(t, growing(3), api.Reply{Value: 127, Used: 8}, 3, 255)
	// No page can come here, and the code goes on without.
	burns(t, growing(4), api.Reply{Value: 127, Used: 8}, 3, 255)
}

func TestGlobals(t *testing.T) {
	data := paged(0, "04 7f01 7f 7e00 7f 7e01 05 7f00 8080808078",
		function{"i:i", "", "2300 2000 2400"}, function{"l:l", "", "2302 2000 2402"}, function{":l", "", "2301"}, function{":i", "", "2303"})
	m := good(t, data)
	s := stoker.NewStore()
	i, other := s.Start(m), s.Start(m)
	first := []uint64{greatest32, 1<<64 - 1, 5, 1 << 31}
	hasGlobals(t, i, first...)
	gives(t, i, api.Reply{Value: greatest32, Used: 3}, 3, 0, 77)
	gives(t, i, api.Reply{Value: 77, Used: 3}, 3, 0, greatest32-1)
	gives(t, i, api.Reply{Value: 5, Used: 3}, 3, 1, 1<<64-2)
	gives(t, i, api.Reply{Value: 1<<64 - 2, Used: 3}, 3, 1, 1<<63)
	gives(t, i, api.Reply{Value: 1<<64 - 1, Used: 1}, 1, 2)
	gives(t, i, api.Reply{Value: 1 << 31, Used: 1}, 1, 3)
	hasGlobals(t, i, greatest32-1, 1<<64-1, 1<<63, 1<<31)
	hasGlobals(t, other, first...)
	// The module has its first values still.
	hasGlobals(t, s.Start(m), first...)
}
