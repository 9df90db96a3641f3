package run

import (
	"stoker/api"
	"stoker/code"
)

// step does what one instruction does; those of one kind have bytes side by side.
func (m *machine) step(in code.Instr) api.Trap {
	switch {
	case in.Op <= code.Call:
		return m.control(in)
	case in.Op == code.Drop:
		m.take()
	case in.Op == code.Select:
		m.choose()
	case in.Op <= code.GlobalSet:
		m.variable(in)
	case in.Op <= code.Grow:
		return m.memory(in)
	case in.Op <= code.Number64:
		m.put(in.Num)
	case in.Op == code.KeyGet:
		m.getKey()
	case in.Op == code.KeySet:
		return m.setKey()
	default:
		return m.reckon(in.Op)
	}
	return api.None
}

// control decides what comes next; where it does nothing, that is the next one in the list.
func (m *machine) control(in code.Instr) api.Trap {
	switch in.Op {
	case code.Unreachable:
		return api.Unreachable
	case code.If:
		if m.take() == 0 {
			m.jump(in.Jump)
		}
	case code.Else, code.Branch:
		m.jump(in.Jump)
	case code.BranchIf:
		if m.take() != 0 {
			m.jump(in.Jump)
		}
	case code.BranchTable:
		// The branches stand from the next place on, the one for all other numbers last.
		which := min(m.take(), in.Num)
		m.jump(m.module.Code[m.at+int(which)].Jump)
	case code.Call:
		return m.enter(int(in.Num))
	case code.End:
		m.leave()
	}
	return api.None
}

func (m *machine) choose() {
	which, second, first := m.take(), m.take(), m.take()
	if which != 0 {
		m.put(first)
	} else {
		m.put(second)
	}
}

func (m *machine) variable(in code.Instr) {
	switch in.Op {
	case code.LocalGet:
		m.put(m.stack[m.local(in.Num)])
	case code.LocalSet:
		value := m.take()
		m.stack[m.local(in.Num)] = value
	case code.LocalTee:
		value := m.take()
		m.stack[m.local(in.Num)] = value
		m.put(value)
	case code.GlobalGet:
		m.put(m.state.Globals[in.Num])
	case code.GlobalSet:
		m.state.Globals[in.Num] = m.take()
	}
}

func (m *machine) getKey() {
	key := int64(m.take())
	m.put(uint64(m.state.Keys[key]))
}

func (m *machine) setKey() api.Trap {
	value, key := int64(m.take()), int64(m.take())
	if _, there := m.state.Keys[key]; !there && len(m.state.Keys) == api.MaxKeys {
		return api.Keys
	}
	m.state.Keys[key] = value
	return api.None
}
