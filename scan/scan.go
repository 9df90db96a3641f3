// Package scan goes through bytes from the front and tells the place of what can not be read.
package scan

import (
	"math"
	"strings"

	"stoker/api"
)

// Fault is what is wrong, and the place of it.
type Fault struct {
	Err api.Errno
	At  int
}

// Form is the fault of bytes that can not be read.
func Form(at int) *Fault { return &Fault{Err: api.ErrForm, At: at} }

// How many bytes the greatest numbers have.
const (
	bytes32 = 5
	bytes64 = 10
)

const (
	more     = 0x80 // the bit of a byte that says that more follow
	sign     = 0x40 // the bit of the last byte that is the sign
	allAbove = 0x7f // a last group that holds nothing but the sign below 0
)

// Reader stands at a place in a row of bytes.
type Reader struct {
	data []byte
	at   int
}

// New stands ahead of the first byte.
func New(data []byte) *Reader { return &Reader{data: data} }

// At tells the place of the next byte.
func (r *Reader) At() int { return r.at }

// Left tells how many bytes there are from here on.
func (r *Reader) Left() int { return len(r.data) - r.at }

// Part gives the next n bytes to a reader of their own, and goes behind them.
// There must be so many. Places are told from the beginning of the whole.
func (r *Reader) Part(n int) *Reader {
	part := &Reader{data: r.data[:r.at+n], at: r.at}
	r.at += n
	return part
}

// Byte reads a byte.
func (r *Reader) Byte() (byte, *Fault) {
	if r.Left() == 0 {
		return 0, Form(r.at)
	}
	c := r.data[r.at]
	r.at++
	return c, nil
}

// OneOf reads a byte that must be one of the given ones.
func (r *Reader) OneOf(allowed string) (byte, *Fault) {
	start := r.at
	c, fault := r.Byte()
	if fault != nil {
		return 0, fault
	}
	if strings.IndexByte(allowed, c) < 0 {
		return 0, Form(start)
	}
	return c, nil
}

// U reads a number from 0 to 2^32 - 1.
func (r *Reader) U() (uint32, *Fault) {
	start := r.at
	groups, fault := r.groups(bytes32)
	if fault != nil {
		return 0, fault
	}
	n := join(groups)
	if n > math.MaxUint32 || padded(groups) {
		return 0, Form(start)
	}
	return uint32(n), nil
}

// Below reads a U that must be below the limit.
func (r *Reader) Below(limit int) (int, *Fault) {
	start := r.at
	n, fault := r.U()
	if fault != nil {
		return 0, fault
	}
	if int64(n) >= int64(limit) {
		return 0, Form(start)
	}
	return int(n), nil
}

// S32 reads a signed number of 32 bits.
func (r *Reader) S32() (int32, *Fault) {
	start := r.at
	groups, fault := r.groups(bytes32)
	if fault != nil {
		return 0, fault
	}
	n := signed(groups)
	if n != int64(int32(n)) || paddedSigned(groups) {
		return 0, Form(start)
	}
	return int32(n), nil
}

// S64 reads a signed number of 64 bits.
func (r *Reader) S64() (int64, *Fault) {
	start := r.at
	groups, fault := r.groups(bytes64)
	if fault != nil {
		return 0, fault
	}
	if beyond64(groups) || paddedSigned(groups) {
		return 0, Form(start)
	}
	return signed(groups), nil
}

// groups reads the bytes of one number, of which there are at most so many.
func (r *Reader) groups(most int) ([]byte, *Fault) {
	start := r.at
	for range most {
		c, fault := r.Byte()
		if fault != nil {
			return nil, fault
		}
		if c < more {
			return r.data[start:r.at], nil
		}
	}
	return nil, Form(start)
}

// join puts the groups together; what is above 64 bits is cut off.
func join(groups []byte) uint64 {
	n := uint64(0)
	for i, c := range groups {
		n |= uint64(c&^more) << (7 * i)
	}
	return n
}

func signed(groups []byte) int64 {
	above := max(0, 64-7*len(groups))
	return int64(join(groups)<<above) >> above
}

// padded tells whether a U has a last group that it does not need.
func padded(groups []byte) bool {
	return len(groups) > 1 && groups[len(groups)-1] == 0
}

// paddedSigned tells whether the group ahead of the last one would tell the same sign.
func paddedSigned(groups []byte) bool {
	if len(groups) < 2 {
		return false
	}
	last, ahead := groups[len(groups)-1], groups[len(groups)-2]
	return last == 0 && ahead&sign == 0 || last == allAbove && ahead&sign != 0
}

// beyond64 tells whether the tenth group has other bits than the sign: join would lose them.
func beyond64(groups []byte) bool {
	if len(groups) < bytes64 {
		return false
	}
	last := groups[bytes64-1]
	return last != 0 && last != allAbove
}
