package run

import (
	"math/bits"

	"stoker/api"
)

// width is how many bits a number has. All numbers are held in 64 bits; above a width of 32 they are 0.
type width uint64

const (
	narrow width = 32
	wide   width = 64
)

// compare does what the instruction with this number among the comparisons does.
func (w width) compare(n byte, a, b uint64) bool {
	signs := [...]func(width, uint64, uint64) bool{
		width.same, width.other,
		width.lessSigned, width.less,
		width.greaterSigned, width.greater,
		width.atMostSigned, width.atMost,
		width.atLeastSigned, width.atLeast,
	}
	return signs[n](w, a, b)
}

// combine does what the instruction with this number among those from the sum on does.
func (w width) combine(n byte, a, b uint64) (uint64, api.Trap) {
	signs := [...]func(width, uint64, uint64) (uint64, api.Trap){
		width.sum, width.difference, width.product,
		width.quotientSigned, width.quotient,
		width.restSigned, width.rest,
		width.and, width.or, width.xor,
		width.left, width.rightSigned, width.right,
		width.roundLeft, width.roundRight,
	}
	return signs[n](w, a, b)
}

// count does what the instruction with this number among those that count bits does.
func (w width) count(n byte, a uint64) uint64 {
	signs := [...]func(width, uint64) int{width.zerosAbove, width.zerosBelow, width.ones}
	return uint64(signs[n](w, a))
}

// cut takes away what is above the width.
func (w width) cut(n uint64) uint64 { return n << (wide - w) >> (wide - w) }

func (w width) signed(n uint64) int64 { return int64(n<<(wide-w)) >> (wide - w) }

// least is the bits of the least signed number.
func (w width) least() uint64 { return 1 << (w - 1) }

func (w width) same(a, b uint64) bool          { return a == b }
func (w width) other(a, b uint64) bool         { return a != b }
func (w width) lessSigned(a, b uint64) bool    { return w.signed(a) < w.signed(b) }
func (w width) less(a, b uint64) bool          { return a < b }
func (w width) greaterSigned(a, b uint64) bool { return w.signed(a) > w.signed(b) }
func (w width) greater(a, b uint64) bool       { return a > b }
func (w width) atMostSigned(a, b uint64) bool  { return w.signed(a) <= w.signed(b) }
func (w width) atMost(a, b uint64) bool        { return a <= b }
func (w width) atLeastSigned(a, b uint64) bool { return w.signed(a) >= w.signed(b) }
func (w width) atLeast(a, b uint64) bool       { return a >= b }

func (w width) sum(a, b uint64) (uint64, api.Trap)        { return w.cut(a + b), api.None }
func (w width) difference(a, b uint64) (uint64, api.Trap) { return w.cut(a - b), api.None }
func (w width) product(a, b uint64) (uint64, api.Trap)    { return w.cut(a * b), api.None }

func (w width) quotientSigned(a, b uint64) (uint64, api.Trap) {
	if b == 0 {
		return 0, api.Divide
	}
	if a == w.least() && w.signed(b) == -1 {
		return 0, api.Overflow
	}
	return w.cut(uint64(w.signed(a) / w.signed(b))), api.None
}

func (w width) quotient(a, b uint64) (uint64, api.Trap) {
	if b == 0 {
		return 0, api.Divide
	}
	return a / b, api.None
}

func (w width) restSigned(a, b uint64) (uint64, api.Trap) {
	if b == 0 {
		return 0, api.Divide
	}
	// The least number by -1 needs no care: the language leaves 0 there, too.
	return w.cut(uint64(w.signed(a) % w.signed(b))), api.None
}

func (w width) rest(a, b uint64) (uint64, api.Trap) {
	if b == 0 {
		return 0, api.Divide
	}
	return a % b, api.None
}

func (w width) and(a, b uint64) (uint64, api.Trap) { return a & b, api.None }
func (w width) or(a, b uint64) (uint64, api.Trap)  { return a | b, api.None }
func (w width) xor(a, b uint64) (uint64, api.Trap) { return a ^ b, api.None }

// by is how far a number moves bits.
func (w width) by(b uint64) width { return width(b) % w }

func (w width) left(a, b uint64) (uint64, api.Trap) { return w.cut(a << w.by(b)), api.None }

func (w width) rightSigned(a, b uint64) (uint64, api.Trap) {
	return w.cut(uint64(w.signed(a) >> w.by(b))), api.None
}

func (w width) right(a, b uint64) (uint64, api.Trap) { return a >> w.by(b), api.None }

func (w width) roundLeft(a, b uint64) (uint64, api.Trap) { return w.round(a, w.by(b)), api.None }

func (w width) roundRight(a, b uint64) (uint64, api.Trap) { return w.round(a, w-w.by(b)), api.None }

// round moves bits to the left, by at most the width; what goes out above comes in below.
func (w width) round(a uint64, by width) uint64 { return w.cut(a<<by | a>>(w-by)) }

func (w width) zerosAbove(a uint64) int { return bits.LeadingZeros64(a) - int(wide-w) }

// A 0 has more of them in what holds it than its width.
func (w width) zerosBelow(a uint64) int { return min(bits.TrailingZeros64(a), int(w)) }

func (w width) ones(a uint64) int { return bits.OnesCount64(a) }
