package stoker_test

import (
	"math/big"
	"math/bits"
	"strings"
	"testing"

	"stoker/api"
)

// edges are numbers of the width around which something may go wrong, and some ordinary ones.
func edges(width int) []uint64 {
	all := ^uint64(0) >> (64 - width)
	least := uint64(1) << (width - 1)
	w := uint64(width)
	return []uint64{
		0, 1, 2, 3, 7, 10, w - 1, w, w + 1, 2*w - 1, 2 * w,
		least - 2, least - 1, least, least + 1, least + w,
		all, all - 1, all - 2, all - 6, all - w,
		0x1122334455667788 & all, 0xfedcba9876543210 & all, 0x5555555555555555 & all,
	}
}

func unsigned(n uint64) *big.Int { return new(big.Int).SetUint64(n) }

// power is 2^n.
func power(n int) *big.Int { return new(big.Int).Lsh(big.NewInt(1), uint(n)) }

func signed(n uint64, width int) *big.Int {
	out := unsigned(n)
	if out.Bit(width-1) == 1 {
		out.Sub(out, power(width))
	}
	return out
}

// bitsOf are the lowest bits of a number, cut off at the width.
func bitsOf(n *big.Int, width int) uint64 {
	// Mod is never below 0, so the bits of a signed number come out.
	return new(big.Int).Mod(n, power(width)).Uint64()
}

// turned moves bits round to the left, one by one.
func turned(n uint64, width, by int) uint64 {
	out := uint64(0)
	for from := range width {
		out |= n >> from & 1 << ((from + by) % width)
	}
	return out
}

// comparison is what the document says of the instruction 46 + n, or 51 + n.
func comparison(n, width int, a, b uint64) bool {
	order := unsigned(a).Cmp(unsigned(b))
	if n >= 2 && n%2 == 0 {
		order = signed(a, width).Cmp(signed(b, width))
	}
	return []bool{order == 0, order != 0, order < 0, order > 0, order <= 0, order >= 0}[min(n, n/2+1)]
}

// combination is what the document says of the instruction 6a + n, or 7c + n.
func combination(n, width int, a, b uint64) (uint64, api.Trap) {
	ua, ub := unsigned(a), unsigned(b)
	by := uint(b % uint64(width))
	z := new(big.Int)
	switch n {
	case 0:
		z.Add(ua, ub)
	case 1:
		z.Sub(ua, ub)
	case 2:
		z.Mul(ua, ub)
	case 3, 4, 5, 6:
		return division(n, width, a, b)
	case 7:
		z.And(ua, ub)
	case 8:
		z.Or(ua, ub)
	case 9:
		z.Xor(ua, ub)
	case 10:
		z.Lsh(ua, by)
	case 11:
		z.Rsh(signed(a, width), by)
	case 12:
		z.Rsh(ua, by)
	case 13:
		return turned(a, width, int(by)), api.None
	case 14:
		return turned(a, width, width-int(by)), api.None
	}
	return bitsOf(z, width), api.None
}

func division(n, width int, a, b uint64) (uint64, api.Trap) {
	x, y := unsigned(a), unsigned(b)
	if n == 3 || n == 5 {
		x, y = signed(a, width), signed(b, width)
	}
	if y.Sign() == 0 {
		return 0, api.Divide
	}
	quotient, rest := new(big.Int).QuoRem(x, y, new(big.Int))
	if n > 4 {
		return bitsOf(rest, width), api.None
	}
	if n == 3 && quotient.Cmp(power(width-1)) == 0 {
		return 0, api.Overflow
	}
	return bitsOf(quotient, width), api.None
}

// eachPair calls an instruction with all pairs of edges.
func eachPair(t *testing.T, op byte, sig string, width int, want func(a, b uint64) (uint64, api.Trap)) {
	t.Helper()
	i := begin(t, module("00", function{sig, "", "2000 2001" + digits(op)}))
	for _, a := range edges(width) {
		for _, b := range edges(width) {
			value, trap := want(a, b)
			gives(t, i, api.Reply{Trap: trap, Value: value, Used: 3}, 3, 0, a, b)
			gives(t, i, api.Reply{Trap: api.Fuel, Used: 2}, 2, 0, a, b)
		}
	}
}

func TestComparisons(t *testing.T) {
	for n := range 10 {
		for _, c := range []struct {
			op    int
			sig   string
			width int
		}{{0x46, "ii:i", 32}, {0x51, "ll:i", 64}} {
			eachPair(t, byte(c.op+n), c.sig, c.width, func(a, b uint64) (uint64, api.Trap) {
				if comparison(n, c.width, a, b) {
					return 1, api.None
				}
				return 0, api.None
			})
		}
	}
}

func TestCombinations(t *testing.T) {
	for n := range 15 {
		for _, c := range []struct {
			op    int
			sig   string
			width int
		}{{0x6a, "ii:i", 32}, {0x7c, "ll:l", 64}} {
			eachPair(t, byte(c.op+n), c.sig, c.width, func(a, b uint64) (uint64, api.Trap) {
				return combination(n, c.width, a, b)
			})
		}
	}
}

// TestWrittenOut has answers that nothing worked out.
func TestWrittenOut(t *testing.T) {
	const least, all = 1 << 31, 1<<32 - 1
	const least64, all64 = 1 << 63, 1<<64 - 1
	for _, c := range []struct {
		sig, op string
		a, b    uint64
		value   uint64
		trap    api.Trap
	}{
		{"ii:i", "6a", all, 1, 0, api.None}, {"ll:l", "7c", all64, 1, 0, api.None},
		{"ii:i", "6b", 0, 1, all, api.None}, {"ll:l", "7d", 0, 1, all64, api.None},
		{"ii:i", "6c", all, all, 1, api.None}, {"ll:l", "7e", least64, 2, 0, api.None},
		{"ii:i", "6d", all - 6, 2, all - 2, api.None}, {"ii:i", "6d", 7, all - 1, all - 2, api.None},
		{"ii:i", "6d", least, all, 0, api.Overflow}, {"ll:l", "7f", least64, all64, 0, api.Overflow},
		{"ii:i", "6d", least, 1, least, api.None}, {"ii:i", "6d", least + 1, all, least - 1, api.None},
		{"ll:l", "7f", least, 1<<32 - 1, 0, api.None}, {"ii:i", "6e", least, all, 0, api.None},
		{"ii:i", "6d", least, 0, 0, api.Divide}, {"ii:i", "6e", 0, 0, 0, api.Divide}, {"ii:i", "6f", least, 0, 0, api.Divide}, {"ii:i", "70", 1, 0, 0, api.Divide},
		{"ll:l", "7f", least64, 0, 0, api.Divide}, {"ll:l", "80", 0, 0, 0, api.Divide}, {"ll:l", "81", 7, 0, 0, api.Divide}, {"ll:l", "82", 1, 0, 0, api.Divide},
		{"ii:i", "6f", least, all, 0, api.None}, {"ll:l", "81", least64, all64, 0, api.None},
		{"ii:i", "6f", all - 6, 2, all, api.None}, {"ii:i", "6f", 7, all - 1, 1, api.None}, {"ll:l", "81", all64 - 6, 4, all64 - 2, api.None},
		{"ii:i", "70", all, 16, 15, api.None}, {"ll:l", "82", all64, 16, 15, api.None},
		{"ii:i", "74", 1, 31, least, api.None}, {"ii:i", "74", 1, 32, 1, api.None}, {"ii:i", "74", 1, all, least, api.None},
		{"ll:l", "86", 1, 63, least64, api.None}, {"ll:l", "86", 1, 64, 1, api.None}, {"ll:l", "86", 1, 1 << 40, 1, api.None},
		{"ii:i", "75", least, 31, all, api.None}, {"ii:i", "75", least, 33, 3 << 30, api.None}, {"ii:i", "76", least, 33, 1 << 30, api.None},
		{"ll:l", "87", least64, 63, all64, api.None}, {"ll:l", "88", least64, 63, 1, api.None}, {"ll:l", "88", least64, 64, least64, api.None},
		{"ii:i", "77", least, 1, 1, api.None}, {"ii:i", "78", 1, 1, least, api.None}, {"ii:i", "77", 5, 32, 5, api.None}, {"ii:i", "78", 5, 64, 5, api.None},
		{"ll:l", "89", least64, 1, 1, api.None}, {"ll:l", "8a", 1, 1, least64, api.None}, {"ll:l", "89", 5, 64, 5, api.None}, {"ll:l", "8a", 5, 0, 5, api.None},
		{"ii:i", "48", least, least - 1, 1, api.None}, {"ii:i", "49", least, least - 1, 0, api.None},
		{"ll:i", "53", least64, least64 - 1, 1, api.None}, {"ll:i", "54", least64, least64 - 1, 0, api.None},
		{"ll:i", "53", least, 0, 0, api.None}, {"ll:i", "51", 1 << 32, 0, 0, api.None},
	} {
		burns(t, module("00", function{c.sig, "", "2000 2001" + c.op}), api.Reply{Trap: c.trap, Value: c.value, Used: 3}, 0, c.a, c.b)
	}
}

// eachEdge calls an instruction with all edges.
func eachEdge(t *testing.T, op byte, sig string, width int, want func(a uint64) uint64) {
	t.Helper()
	i := begin(t, module("00", function{sig, "", "2000" + digits(op)}))
	for _, a := range edges(width) {
		gives(t, i, api.Reply{Value: want(a), Used: 2}, 2, 0, a)
		gives(t, i, api.Reply{Trap: api.Fuel, Used: 1}, 1, 0, a)
	}
}

func TestOneNumber(t *testing.T) {
	isZero := func(a uint64) uint64 {
		if a == 0 {
			return 1
		}
		return 0
	}
	eachEdge(t, 0x45, "i:i", 32, isZero)
	eachEdge(t, 0x50, "l:i", 64, isZero)
	eachEdge(t, 0x67, "i:i", 32, func(a uint64) uint64 { return uint64(bits.LeadingZeros32(uint32(a))) })
	eachEdge(t, 0x68, "i:i", 32, func(a uint64) uint64 { return uint64(bits.TrailingZeros32(uint32(a))) })
	eachEdge(t, 0x69, "i:i", 32, func(a uint64) uint64 { return uint64(bits.OnesCount32(uint32(a))) })
	eachEdge(t, 0x79, "l:l", 64, func(a uint64) uint64 { return uint64(bits.LeadingZeros64(a)) })
	eachEdge(t, 0x7a, "l:l", 64, func(a uint64) uint64 { return uint64(bits.TrailingZeros64(a)) })
	eachEdge(t, 0x7b, "l:l", 64, func(a uint64) uint64 { return uint64(bits.OnesCount64(a)) })
	eachEdge(t, 0xa7, "l:i", 64, func(a uint64) uint64 { return uint64(uint32(a)) })
	eachEdge(t, 0xac, "i:l", 32, func(a uint64) uint64 { return bitsOf(signed(a, 32), 64) })
	eachEdge(t, 0xad, "i:l", 32, func(a uint64) uint64 { return a })
}

func TestCountsWrittenOut(t *testing.T) {
	for _, c := range []struct {
		sig, op  string
		a, value uint64
	}{
		{"i:i", "67", 0, 32}, {"i:i", "67", 1, 31}, {"i:i", "67", 1 << 31, 0}, {"l:l", "79", 0, 64}, {"l:l", "79", 1, 63}, {"l:l", "79", 1 << 63, 0},
		{"i:i", "68", 0, 32}, {"i:i", "68", 1, 0}, {"i:i", "68", 1 << 31, 31}, {"l:l", "7a", 0, 64}, {"l:l", "7a", 1, 0}, {"l:l", "7a", 1 << 63, 63},
		{"i:i", "69", 0, 0}, {"i:i", "69", 1<<32 - 1, 32}, {"l:l", "7b", 0, 0}, {"l:l", "7b", 1<<64 - 1, 64},
		{"l:i", "50", 1 << 32, 0}, {"l:i", "a7", 1<<32 + 5, 5}, {"i:l", "ac", 1<<32 - 1, 1<<64 - 1}, {"i:l", "ac", 1<<31 - 1, 1<<31 - 1}, {"i:l", "ad", 1<<32 - 1, 1<<32 - 1},
	} {
		burns(t, module("00", function{c.sig, "", "2000" + c.op}), api.Reply{Value: c.value, Used: 2}, 0, c.a)
	}
}

func TestNumbersAreWhatTheySay(t *testing.T) {
	for _, c := range []struct {
		sig, code string
		value     uint64
	}{
		{":i", "41 00", 0}, {":i", "41 3f", 63}, {":i", "41 40", 1<<32 - 64}, {":i", "41 7f", 1<<32 - 1}, {":i", "41 ff00", 127},
		{":i", "41 ffffffff07", 1<<31 - 1}, {":i", "41 8080808078", 1 << 31},
		{":l", "42 00", 0}, {":l", "42 7f", 1<<64 - 1}, {":l", "42 8080808010", 1 << 32},
		{":l", "42 ffffffffffffffffff00", 1<<63 - 1}, {":l", "42 8080808080808080807f", 1 << 63},
		// A number of 32 bits has nothing above them, though it is below 0.
		{":l", "41 7f ad", 1<<32 - 1},
	} {
		burns(t, module("00", function{c.sig, "", c.code}), api.Reply{Value: c.value, Used: 1 + strings.Count(c.code, "ad")}, 0)
	}
}
