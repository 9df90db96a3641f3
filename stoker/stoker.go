// Package stoker: a small machine for untrusted code: see DOC.md.
package stoker

import (
	"stoker/api"
	"stoker/code"
	"stoker/look"
)

// Module is code that was looked at.
type Module struct {
	flat code.Module
}

// Load looks at a module's bytes (P3).
func Load(data []byte) (*Module, api.Errno, int) {
	flat, fault := look.Module(data)
	if fault != nil {
		return nil, fault.Err, fault.At
	}
	return &Module{flat: *flat}, api.OK, 0
}

// Funcs tells how many functions there are (P4).
func (m *Module) Funcs() int {
	// Beside an error Load gives no module, and that one may be asked, too.
	if m == nil {
		return 0
	}
	return len(m.flat.Funcs)
}

// Type tells a function's parameters and results (P4).
func (m *Module) Type(f int) ([]byte, []byte, api.Errno) {
	if f < 0 || f >= m.Funcs() {
		return nil, nil, api.ErrFunc
	}
	typ := m.flat.Funcs[f].Type
	return fresh(typ.Params), fresh(typ.Results), api.OK
}

// fresh copies a list into memory that has no spare room.
func fresh(list []byte) []byte {
	out := make([]byte, len(list))
	copy(out, list)
	return out
}

// Store is keys and their values.
type Store struct{}

// NewStore makes an empty one (P5).
func NewStore() *Store { return nil }

// Keys tells all keys (P5).
func (s *Store) Keys() []int64 { return nil }

// Get tells a key's value (P5).
func (s *Store) Get(key int64) (int64, bool) { return 0, false }

// Start makes an instance of a module that uses the store (P6).
func (s *Store) Start(m *Module) *Instance { return nil }

// Instance is a module with its own memory and globals.
type Instance struct{}

// Call runs a function (P7, P8).
func (i *Instance) Call(f int, args []uint64, fuel int) api.Reply { return api.Reply{} }

// Memory tells all bytes of the memory (P6).
func (i *Instance) Memory() []byte { return nil }

// Globals tells the values of all globals (P6).
func (i *Instance) Globals() []uint64 { return nil }
