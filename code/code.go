// Package code is what a module is turned into: one flat list of instructions, with nothing left in it to look up or to check.
package code

// The instructions; of those that stand in a row of the same kind, the first and the last one.
const (
	Unreachable = 0x00
	Nothing     = 0x01
	Block       = 0x02
	Loop        = 0x03
	If          = 0x04
	Else        = 0x05
	End         = 0x0b
	Branch      = 0x0c
	BranchIf    = 0x0d
	BranchTable = 0x0e
	Return      = 0x0f
	Call        = 0x10
	Drop        = 0x1a
	Select      = 0x1b

	LocalGet  = 0x20
	LocalSet  = 0x21
	LocalTee  = 0x22
	GlobalGet = 0x23
	GlobalSet = 0x24

	MemoryGet32      = 0x28
	MemoryGet64      = 0x29
	MemoryGet8Signed = 0x2c
	MemoryGet8       = 0x2d
	MemorySet32      = 0x36
	MemorySet64      = 0x37
	MemorySet8       = 0x3a
	Pages            = 0x3f
	Grow             = 0x40

	Number32     = 0x41
	Number64     = 0x42
	Zero32       = 0x45
	Same32       = 0x46
	AtLeast32    = 0x4f
	Zero64       = 0x50
	Same64       = 0x51
	AtLeast64    = 0x5a
	ZerosAbove32 = 0x67
	Ones32       = 0x69
	Sum32        = 0x6a
	RoundRight32 = 0x78
	ZerosAbove64 = 0x79
	Ones64       = 0x7b
	Sum64        = 0x7c
	RoundRight64 = 0x8a
	Lower        = 0xa7
	WidenSigned  = 0xac
	Widen        = 0xad

	KeyGet = 0xe0
	KeySet = 0xe1
)

// Jump is where a branch goes and what it leaves on the stack.
// The stack is the function's own: locals and the caller's values are not counted.
type Jump struct {
	To     int // the place in the list
	Height int // how many values stay below what is carried
	Keep   int // how many values are carried: 0 or 1
}

// Instr is one instruction of the list.
//
// Num is the number behind it: a value's bits, what is added to an address, or which local, global or function.
//
// An If jumps where its value is 0; an Else stands at the end of an IF's first part and always jumps.
// A BranchTable has Num+1 instructions Branch behind it: one for each number, and the last one.
// A Return stands as a Branch, to the End of its function. Other ENDs do nothing, so they are left out.
type Instr struct {
	Op   byte
	Num  uint64
	Jump Jump
}

// Type is what a function takes and gives, as bytes of types.
type Type struct {
	Params  []byte
	Results []byte
}

// Func is a function.
type Func struct {
	Type   Type
	Locals int // with the parameters
	Entry  int // the place of its first instruction in the list
}

// Module is a module that was looked at.
type Module struct {
	Funcs   []Func
	Globals []uint64 // their values at first
	Pages   int      // of the memory at first
	Code    []Instr
}
