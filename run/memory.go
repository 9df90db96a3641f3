package run

import (
	"stoker/api"
	"stoker/code"
)

// failed stands for the count of pages where there would be too many: the I32 -1.
const failed = 1<<32 - 1

func (m *machine) memory(in code.Instr) api.Trap {
	switch in.Op {
	case code.MemoryGet8, code.MemoryGet8Signed:
		return m.getMemory(in, 1)
	case code.MemoryGet32:
		return m.getMemory(in, 4)
	case code.MemoryGet64:
		return m.getMemory(in, 8)
	case code.MemorySet8:
		return m.setMemory(in, 1)
	case code.MemorySet32:
		return m.setMemory(in, 4)
	case code.MemorySet64:
		return m.setMemory(in, 8)
	case code.Pages:
		m.put(m.pages())
	case code.Grow:
		m.grow()
	}
	return api.None
}

// reach gives the bytes that an instruction means, and false, if they do not all lie in the memory.
// An address and what is added are both below 2^32, so their sum is told in full.
func (m *machine) reach(address, added, size uint64) ([]byte, bool) {
	from := address + added
	if from+size > uint64(len(m.state.Memory)) {
		return nil, false
	}
	return m.state.Memory[from : from+size], true
}

// getMemory puts a number of so many bytes, the lowest of them first, on the stack.
func (m *machine) getMemory(in code.Instr, size uint64) api.Trap {
	cells, ok := m.reach(m.take(), in.Num, size)
	if !ok {
		return api.Bounds
	}
	value := uint64(0)
	for n, c := range cells {
		value |= uint64(c) << (8 * n)
	}
	if in.Op == code.MemoryGet8Signed {
		value = narrow.cut(uint64(int8(value)))
	}
	m.put(value)
	return api.None
}

// setMemory puts so many bytes of a number into the memory, the lowest first.
func (m *machine) setMemory(in code.Instr, size uint64) api.Trap {
	value := m.take()
	cells, ok := m.reach(m.take(), in.Num, size)
	if !ok {
		return api.Bounds
	}
	for n := range cells {
		cells[n] = byte(value >> (8 * n))
	}
	return api.None
}

func (m *machine) pages() uint64 { return uint64(len(m.state.Memory) / api.PageBytes) }

func (m *machine) grow() {
	before, more := m.pages(), m.take()
	if before+more > api.MaxPages {
		m.put(failed)
		return
	}
	m.state.Memory = append(m.state.Memory, make([]byte, more*api.PageBytes)...)
	m.put(before)
}
