package run

import (
	"stoker/api"
	"stoker/code"
)

// reckon does what an instruction does with nothing but the numbers on the stack.
func (m *machine) reckon(op byte) api.Trap {
	switch {
	case op == code.Zero32 || op == code.Zero64:
		m.putTruth(m.take() == 0)
	case code.Same32 <= op && op <= code.AtLeast32:
		m.compare(narrow, op-code.Same32)
	case code.Same64 <= op && op <= code.AtLeast64:
		m.compare(wide, op-code.Same64)
	case code.ZerosAbove32 <= op && op <= code.Ones32:
		m.put(narrow.count(op-code.ZerosAbove32, m.take()))
	case code.ZerosAbove64 <= op && op <= code.Ones64:
		m.put(wide.count(op-code.ZerosAbove64, m.take()))
	case code.Sum32 <= op && op <= code.RoundRight32:
		return m.combine(narrow, op-code.Sum32)
	case code.Sum64 <= op && op <= code.RoundRight64:
		return m.combine(wide, op-code.Sum64)
	case op == code.Lower:
		m.put(narrow.cut(m.take()))
	case op == code.WidenSigned:
		m.put(uint64(narrow.signed(m.take())))
	case op == code.Widen:
		// An I32 has 0 above already.
	}
	return api.None
}

func (m *machine) putTruth(holds bool) {
	if holds {
		m.put(1)
	} else {
		m.put(0)
	}
}

func (m *machine) compare(w width, n byte) {
	b, a := m.take(), m.take()
	m.putTruth(w.compare(n, a, b))
}

// combine makes one number of two.
func (m *machine) combine(w width, n byte) api.Trap {
	b, a := m.take(), m.take()
	value, trap := w.combine(n, a, b)
	if trap == api.None {
		m.put(value)
	}
	return trap
}
