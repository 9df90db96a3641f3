package scan

import (
	"encoding/hex"
	"math"
	"strings"
	"testing"

	"stoker/api"
)

func row(t *testing.T, digits string) []byte {
	t.Helper()
	b, err := hex.DecodeString(strings.ReplaceAll(digits, " ", ""))
	if err != nil {
		t.Fatal(err)
	}
	return b
}

// ahead is put in front of each number, so that a place told from there on would be seen.
var ahead = []byte{0x80, 0x80, 0x80}

func reader(t *testing.T, digits string) *Reader {
	t.Helper()
	r := New(append(append([]byte{}, ahead...), row(t, digits)...))
	r.Part(len(ahead))
	return r
}

func checkRead(t *testing.T, name, digits string, got, want int64, r *Reader, fault *Fault) {
	t.Helper()
	if fault != nil || got != want || r.Left() != 0 {
		t.Errorf("%s of %s = %d, %v, %d bytes left, want %d", name, digits, got, fault, r.Left(), want)
	}
}

func checkFault(t *testing.T, name, digits string, got int64, fault *Fault, at int) {
	t.Helper()
	if fault == nil || *fault != (Fault{api.ErrForm, len(ahead) + at}) || got != 0 {
		t.Errorf("%s of %s = %d, %v, want ErrForm %d behind its first byte", name, digits, got, fault, at)
	}
}

func readU(r *Reader) (int64, *Fault) {
	n, fault := r.U()
	return int64(n), fault
}

func readS32(r *Reader) (int64, *Fault) {
	n, fault := r.S32()
	return int64(n), fault
}

type number struct {
	digits string
	value  int64
}

type broken struct {
	digits string
	at     int
}

func checkNumbers(t *testing.T, name string, read func(*Reader) (int64, *Fault), good []number, bad []broken) {
	t.Helper()
	for _, c := range good {
		r := reader(t, c.digits)
		n, fault := read(r)
		checkRead(t, name, c.digits, n, c.value, r, fault)
	}
	for _, c := range bad {
		n, fault := read(reader(t, c.digits))
		checkFault(t, name, c.digits, n, fault, c.at)
	}
}

func TestU(t *testing.T) {
	checkNumbers(t, "U", readU, []number{
		{"00", 0}, {"01", 1}, {"7f", 127}, {"80 01", 128}, {"ff 7f", 1<<14 - 1}, {"80 80 01", 1 << 14}, {"ff ff 7f", 1<<21 - 1}, {"80 80 80 01", 1 << 21},
		{"ff ff ff 7f", 1<<28 - 1}, {"80 80 80 80 01", 1 << 28}, {"ff ff ff ff 0f", math.MaxUint32}, {"80 80 80 80 08", 1 << 31},
	}, []broken{
		// Not as short as can be.
		{"80 00", 0}, {"ff 00", 0}, {"81 80 00", 0}, {"80 80 80 80 00", 0},
		// Too great.
		{"80 80 80 80 10", 0}, {"ff ff ff ff 1f", 0}, {"ff ff ff ff 7f", 0}, {"80 80 80 80 40", 0},
		// A fifth byte that says that more follow, whether they do or not.
		{"80 80 80 80 80", 0}, {"80 80 80 80 80 00", 0}, {"81 80 80 80 80 00", 0},
		// Bytes are missing.
		{"", 0}, {"80", 1}, {"ff ff", 2}, {"ff ff ff", 3}, {"ff ff ff ff", 4},
	})
}

func TestS32(t *testing.T) {
	checkNumbers(t, "S32", readS32, []number{
		{"00", 0}, {"3f", 63}, {"40", -64}, {"7f", -1}, {"c0 00", 64}, {"bf 7f", -65}, {"ff 3f", 1<<13 - 1}, {"80 40", -1 << 13}, {"80 c0 00", 1 << 13}, {"ff bf 7f", -1<<13 - 1},
		{"ff ff ff ff 07", math.MaxInt32}, {"80 80 80 80 78", math.MinInt32}, {"80 80 80 80 01", 1 << 28}, {"ff ff ff ff 7e", -1<<28 - 1},
	}, []broken{
		{"80 00", 0}, {"bf 00", 0}, {"ff 7f", 0}, {"c0 7f", 0}, {"80 80 00", 0}, {"ff ff 7f", 0}, {"ff ff ff bf 00", 0}, {"80 80 80 c0 7f", 0},
		{"80 80 80 80 08", 0}, {"ff ff ff ff 0f", 0}, {"ff ff ff ff 77", 0}, {"80 80 80 80 70", 0}, {"80 80 80 80 40", 0}, {"ff ff ff ff 3f", 0},
		{"80 80 80 80 80", 0}, {"ff ff ff ff ff", 0}, {"ff ff ff ff ff 7f", 0},
		{"", 0}, {"80", 1}, {"ff ff ff ff", 4},
	})
}

func TestS64(t *testing.T) {
	nine, lots := strings.Repeat("80", 9), strings.Repeat("ff", 9)
	checkNumbers(t, "S64", (*Reader).S64, []number{
		{"00", 0}, {"3f", 63}, {"40", -64}, {"7f", -1}, {"c0 00", 64}, {"bf 7f", -65}, {"80 80 80 80 08", 1 << 31}, {"ff ff ff ff 77", -1<<31 - 1},
		{strings.Repeat("ff", 8) + "3f", 1<<62 - 1}, {strings.Repeat("80", 8) + "40", -1 << 62},
		{strings.Repeat("80", 8) + "c0 00", 1 << 62}, {lots + "00", math.MaxInt64}, {nine + "7f", math.MinInt64},
	}, []broken{
		{"80 00", 0}, {"ff 7f", 0}, {nine + "00", 0}, {lots + "7f", 0}, {strings.Repeat("80", 8) + "00", 0},
		{nine + "01", 0}, {lots + "01", 0}, {nine + "7e", 0}, {lots + "7e", 0}, {nine + "40", 0}, {lots + "3f", 0},
		{nine + "80", 0}, {lots + "ff", 0}, {nine + "80 00", 0},
		{"", 0}, {"80", 1}, {nine, 9}, {lots, 9},
	})
}

func TestBelow(t *testing.T) {
	for _, c := range []struct {
		digits string
		limit  int
		ok     bool
	}{
		{"00", 1, true}, {"00", 0, false}, {"10", 17, true}, {"11", 17, false}, {"ff ff ff ff 0f", 17, false}, {"80 01", 128, false}, {"80 01", 129, true},
	} {
		r := reader(t, c.digits)
		n, fault := r.Below(c.limit)
		if !c.ok {
			checkFault(t, "Below", c.digits, int64(n), fault, 0)
			continue
		}
		want, _ := reader(t, c.digits).U()
		checkRead(t, "Below", c.digits, int64(n), int64(want), r, fault)
	}
	n, fault := reader(t, "80").Below(17)
	checkFault(t, "Below", "80", int64(n), fault, 1)
}

func TestOneOf(t *testing.T) {
	r := reader(t, "7e 7f 00")
	for _, want := range []byte{0x7e, 0x7f} {
		if c, fault := r.OneOf("\x7f\x7e"); c != want || fault != nil {
			t.Errorf("OneOf = %x, %v, want %x", c, fault, want)
		}
	}
	c, fault := r.OneOf("\x7f\x7e")
	checkFault(t, "OneOf", "00", int64(c), fault, 2)
	c, fault = r.OneOf("\x00")
	checkFault(t, "OneOf", "nothing", int64(c), fault, 3)
}

func TestPartEndsEarlier(t *testing.T) {
	r := reader(t, "80 01 02")
	part := r.Part(1)
	n, fault := part.U()
	checkFault(t, "U of a part", "80", int64(n), fault, 1)
	if c, fault := r.Byte(); c != 1 || fault != nil {
		t.Errorf("behind the part stands %x, %v, want 1", c, fault)
	}
	if r.Left() != 1 || r.At() != len(ahead)+2 {
		t.Errorf("Left = %d, At = %d", r.Left(), r.At())
	}
}
