// Package run runs the flat list of a module that was looked at. Nothing of it is checked again.
package run

import (
	"stoker/api"
	"stoker/code"
)

// State is what code may change.
type State struct {
	Memory  []byte
	Globals []uint64
	Keys    map[int64]int64 // not nil
}

// call is a function that is being run.
type call struct {
	locals int // the place of its first local on the stack
	floor  int // the place of its first value above the locals
	back   int // the place in the list where the caller goes on
}

// machine runs one call from outside.
type machine struct {
	module *code.Module
	state  *State
	stack  []uint64 // of each call its locals, then its values
	calls  []call
	at     int // the place in the list of the next instruction
	fuel   int // what is left
}

// Call runs a function. It must be there, and the arguments must be those it takes.
// With a trap the state is left as it is at that moment.
func Call(module *code.Module, f int, args []uint64, fuel int, state *State) api.Reply {
	m := &machine{module: module, state: state, fuel: fuel}
	m.stack = append(m.stack, args...)
	m.enter(f)
	reply := api.Reply{Trap: m.run()}
	reply.Used = fuel - m.fuel
	if reply.Trap == api.None && len(m.stack) > 0 {
		reply.Value = m.take()
	}
	return reply
}

func (m *machine) run() api.Trap {
	for len(m.calls) > 0 {
		in := m.module.Code[m.at]
		m.at++
		if burns(in.Op) {
			if m.fuel == 0 {
				return api.Fuel
			}
			m.fuel--
		}
		if trap := m.step(in); trap != api.None {
			return trap
		}
	}
	return api.None
}

func burns(op byte) bool { return op != code.Else && op != code.End }

func (m *machine) put(value uint64) { m.stack = append(m.stack, value) }

func (m *machine) take() uint64 {
	top := len(m.stack) - 1
	value := m.stack[top]
	m.stack = m.stack[:top]
	return value
}

// sink drops what lies between the height and the values on the top that stay.
func (m *machine) sink(height, stay int) {
	top := m.stack[len(m.stack)-stay:]
	m.stack = append(m.stack[:height], top...)
}

// inner is the innermost call.
func (m *machine) inner() *call { return &m.calls[len(m.calls)-1] }

// local is the place on the stack of a local of the innermost call.
func (m *machine) local(n uint64) int { return m.inner().locals + int(n) }

func (m *machine) enter(f int) api.Trap {
	if len(m.calls) == api.MaxCalls {
		return api.Calls
	}
	next := m.module.Funcs[f]
	params := len(next.Type.Params)
	// What the caller has put there for the parameters becomes the first locals.
	locals := len(m.stack) - params
	m.stack = append(m.stack, make([]uint64, next.Locals-params)...)
	m.calls = append(m.calls, call{locals: locals, floor: len(m.stack), back: m.at})
	m.at = next.Entry
	return api.None
}

func (m *machine) leave() {
	last := *m.inner()
	m.sink(last.locals, len(m.stack)-last.floor)
	m.calls = m.calls[:len(m.calls)-1]
	m.at = last.back
}

func (m *machine) jump(to code.Jump) {
	m.sink(m.inner().floor+to.Height, to.Keep)
	m.at = to.To
}
