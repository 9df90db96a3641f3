package look

// What stands behind an instruction's byte.
const (
	bare   = iota // nothing
	withU         // a U
	with32        // an S32
	with64        // an S64
	own           // told, as its stack is, by a function of its own
)

// The types as texts, so that rows of them can be written by +.
const (
	i = "\x7f"
	l = "\x7e"
)

// row is a run of instructions of one shape.
type row struct {
	from, to byte
	behind   int
	takes    string // the top last
	gives    string
}

var rows = []row{
	{0x00, 0x00, own, "", ""},
	{0x01, 0x01, bare, "", ""},
	{0x02, 0x05, own, "", ""},
	{0x0b, 0x10, own, "", ""},
	{0x1a, 0x1b, own, "", ""},
	{0x20, 0x24, own, "", ""},
	{0x28, 0x28, withU, i, i},
	{0x29, 0x29, withU, i, l},
	{0x2c, 0x2d, withU, i, i},
	{0x36, 0x36, withU, i + i, ""},
	{0x37, 0x37, withU, i + l, ""},
	{0x3a, 0x3a, withU, i + i, ""},
	{0x3f, 0x3f, bare, "", i},
	{0x40, 0x40, bare, i, i},
	{0x41, 0x41, with32, "", i},
	{0x42, 0x42, with64, "", l},
	{0x45, 0x45, bare, i, i},
	{0x46, 0x4f, bare, i + i, i},
	{0x50, 0x50, bare, l, i},
	{0x51, 0x5a, bare, l + l, i},
	{0x67, 0x69, bare, i, i},
	{0x6a, 0x78, bare, i + i, i},
	{0x79, 0x7b, bare, l, l},
	{0x7c, 0x8a, bare, l + l, l},
	{0xa7, 0xa7, bare, l, i},
	{0xac, 0xad, bare, i, l},
	{0xe0, 0xe0, bare, l, l},
	{0xe1, 0xe1, bare, l + l, ""},
}

// find tells an instruction's row; false, if the byte is no instruction.
func find(op byte) (row, bool) {
	for _, r := range rows {
		if r.from <= op && op <= r.to {
			return r, true
		}
	}
	return row{}, false
}
