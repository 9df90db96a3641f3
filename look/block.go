package look

import (
	"bytes"

	"stoker/api"
	"stoker/code"
	"stoker/scan"
)

// kind tells what a block is.
type kind int

const (
	whole  kind = iota // the function's body
	plain              // a BLOCK
	loop               // a LOOP
	first              // an IF whose ELSE has not come
	second             // an IF behind its ELSE
)

// noResult is the BLOCKTYPE of a block without a result.
const noResult = 0x40

// block is a block whose END has not come.
type block struct {
	kind   kind
	result []byte // none or one type
	height int    // of the stack at its beginning
	start  int    // the place in the list behind what began it
	waits  []int  // the places of those that go behind its END
}

// value is what a branch to the block must carry.
func (blk *block) value() []byte {
	if blk.kind == loop {
		return nil
	}
	return blk.result
}

func kindOf(op byte) kind {
	switch op {
	case code.Loop:
		return loop
	case code.If:
		return first
	}
	return plain
}

// inner is the innermost block.
func (b *body) inner() *block { return &b.blocks[len(b.blocks)-1] }

func (b *body) open(op byte) *scan.Fault {
	blockType, fault := b.in.OneOf(blockTypes)
	if fault != nil {
		return fault
	}
	if op == code.If && !b.take(api.I32) {
		return b.wrong()
	}
	// The body is one of the blocks, but not counted.
	if len(b.blocks)-1 == api.MaxNest {
		return b.wrong()
	}
	next := block{kind: kindOf(op), height: len(b.stack), start: b.here() + 1}
	if blockType != noResult {
		next.result = []byte{blockType}
	}
	begin := code.Instr{Op: op}
	if op == code.If {
		begin.Jump.Height = next.height
	}
	b.emit(begin)
	b.blocks = append(b.blocks, next)
	return nil
}

func (b *body) turn() *scan.Fault {
	blk := b.inner()
	if blk.kind != first || !b.full(blk) {
		return b.wrong()
	}
	b.jump(code.Else, blk)
	b.aim(blk.start - 1)
	blk.kind = second
	b.stack = b.stack[:blk.height]
	b.closed = false
	return nil
}

func (b *body) end() *scan.Fault {
	blk := b.inner()
	if !b.full(blk) || blk.kind == first && len(blk.result) > 0 {
		return b.wrong()
	}
	if blk.kind == first {
		b.aim(blk.start - 1)
	}
	for _, n := range blk.waits {
		b.aim(n)
	}
	if blk.kind == whole {
		b.emit(code.Instr{Op: code.End})
	}
	b.stack = append(b.stack[:blk.height], blk.result...)
	b.blocks = b.blocks[:len(b.blocks)-1]
	b.closed = false
	return nil
}

// full tells whether the stack within reach is just the block's result.
func (b *body) full(blk *block) bool {
	return b.closed || bytes.Equal(b.stack[blk.height:], blk.result)
}

func (b *body) branch(op byte) *scan.Fault {
	blk, fault := b.label()
	if fault != nil {
		return fault
	}
	if op == code.BranchIf && !b.take(api.I32) || !b.carries(blk) {
		return b.wrong()
	}
	b.jump(op, blk)
	b.closed = op == code.Branch
	return nil
}

func (b *body) leave() *scan.Fault {
	blk := &b.blocks[0]
	if !b.carries(blk) {
		return b.wrong()
	}
	b.jump(code.Branch, blk)
	b.closed = true
	return nil
}

func (b *body) table() *scan.Fault {
	count, fault := b.in.Below(api.MaxTable + 1)
	if fault != nil {
		return fault
	}
	goals := []*block{}
	for range count + 1 {
		blk, fault := b.label()
		if fault != nil {
			return fault
		}
		goals = append(goals, blk)
	}
	if !b.take(api.I32) || !b.carries(goals[count]) || !alike(goals) {
		return b.wrong()
	}
	b.emit(code.Instr{Op: code.BranchTable, Num: uint64(count)})
	for _, blk := range goals {
		b.jump(code.Branch, blk)
	}
	b.closed = true
	return nil
}

func alike(goals []*block) bool {
	for _, blk := range goals {
		if !bytes.Equal(blk.value(), goals[0].value()) {
			return false
		}
	}
	return true
}

// label reads which block a branch goes to.
func (b *body) label() (*block, *scan.Fault) {
	n, fault := b.in.Below(len(b.blocks))
	if fault != nil {
		return nil, fault
	}
	return &b.blocks[len(b.blocks)-1-n], nil
}

// carries tells whether a branch to the block finds its value; the value stays.
func (b *body) carries(blk *block) bool {
	if !b.takeAll(blk.value()) {
		return false
	}
	b.put(blk.value()...)
	return true
}

// jump puts an instruction into the list that goes to the block.
func (b *body) jump(op byte, blk *block) {
	goal := code.Jump{Height: blk.height, Keep: len(blk.value())}
	if blk.kind == loop {
		goal.To = blk.start
	} else {
		blk.waits = append(blk.waits, b.here())
	}
	b.emit(code.Instr{Op: op, Jump: goal})
}

// aim lets the instruction at the place go to what comes next.
func (b *body) aim(n int) { b.out.Code[n].Jump.To = b.here() }
