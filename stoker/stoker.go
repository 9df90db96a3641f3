// Package stoker: a small machine for untrusted code: see DOC.md.
package stoker

import (
	"maps"
	"math"
	"slices"
	"sync"

	"stoker/api"
	"stoker/code"
	"stoker/look"
	"stoker/run"
)

// Module is code that was looked at.
type Module struct {
	flat code.Module
}

// Load looks at a module's bytes (P3).
func Load(data []byte) (*Module, api.Errno, int) {
	flat, fault := look.Module(data)
	if fault != nil {
		return nil, fault.Err, fault.At
	}
	return &Module{flat: *flat}, api.OK, 0
}

// Funcs tells how many functions there are (P4).
func (m *Module) Funcs() int {
	// Beside an error Load gives no module, and that one may be asked, too.
	if m == nil {
		return 0
	}
	return len(m.flat.Funcs)
}

// Type tells a function's parameters and results (P4).
func (m *Module) Type(f int) ([]byte, []byte, api.Errno) {
	if f < 0 || f >= m.Funcs() {
		return nil, nil, api.ErrFunc
	}
	typ := m.flat.Funcs[f].Type
	return fresh(typ.Params), fresh(typ.Results), api.OK
}

// fresh copies a list into memory that has no spare room.
func fresh[T any](list []T) []T {
	out := make([]T, len(list))
	copy(out, list)
	return out
}

// Store is keys and their values.
type Store struct {
	lock   sync.Mutex // a call of one of its instances holds it from beginning to end
	values map[int64]int64
}

// NewStore makes an empty one (P5).
func NewStore() *Store { return &Store{} }

// Keys tells all keys (P5).
func (s *Store) Keys() []int64 {
	if s == nil {
		return nil
	}
	s.lock.Lock()
	defer s.lock.Unlock()
	return slices.Sorted(maps.Keys(s.values))
}

// Get tells a key's value (P5).
func (s *Store) Get(key int64) (int64, bool) {
	if s == nil {
		return 0, false
	}
	s.lock.Lock()
	defer s.lock.Unlock()
	value, there := s.values[key]
	return value, there
}

// Start makes an instance of a module that uses the store (P6).
func (s *Store) Start(m *Module) *Instance {
	// Beside an error Load gives no module: of that there is no instance.
	if s == nil || m == nil {
		return nil
	}
	memory := make([]byte, m.flat.Pages*api.PageBytes)
	return &Instance{store: s, module: m, memory: memory, globals: fresh(m.flat.Globals)}
}

// Instance is a module with its own memory and globals.
type Instance struct {
	store   *Store
	module  *Module
	memory  []byte
	globals []uint64
}

// started tells whether there is an instance at all: Start gives none of no module.
func (i *Instance) started() bool { return i != nil && i.store != nil }

// Call runs a function (P7, P8).
func (i *Instance) Call(f int, args []uint64, fuel int) api.Reply {
	if !i.started() {
		return api.Reply{Err: api.ErrFunc}
	}
	i.store.lock.Lock()
	defer i.store.lock.Unlock()
	if err := i.module.refuses(f, args, fuel); err != api.OK {
		return api.Reply{Err: err}
	}
	state := i.state()
	reply := run.Call(&i.module.flat, f, args, fuel, state)
	if reply.Trap == api.None {
		i.memory, i.globals, i.store.values = state.Memory, state.Globals, state.Keys
	}
	return reply
}

// refuses tells why a call can not be run.
func (m *Module) refuses(f int, args []uint64, fuel int) api.Errno {
	if f < 0 || f >= m.Funcs() {
		return api.ErrFunc
	}
	if !fits(args, m.flat.Funcs[f].Type.Params) {
		return api.ErrArgs
	}
	if fuel < 0 || fuel > api.MaxFuel {
		return api.ErrFuel
	}
	return api.OK
}

func fits(args []uint64, params []byte) bool {
	if len(args) != len(params) {
		return false
	}
	for n, typ := range params {
		if typ == api.I32 && args[n] > math.MaxUint32 {
			return false
		}
	}
	return true
}

// state copies what a call may change: it stands only if the call comes to its end.
func (i *Instance) state() *run.State {
	keys := map[int64]int64{}
	maps.Copy(keys, i.store.values)
	return &run.State{Memory: fresh(i.memory), Globals: fresh(i.globals), Keys: keys}
}

// Memory tells all bytes of the memory (P6).
func (i *Instance) Memory() []byte {
	if !i.started() {
		return nil
	}
	i.store.lock.Lock()
	defer i.store.lock.Unlock()
	return fresh(i.memory)
}

// Globals tells the values of all globals (P6).
func (i *Instance) Globals() []uint64 {
	if !i.started() {
		return nil
	}
	i.store.lock.Lock()
	defer i.store.lock.Unlock()
	return fresh(i.globals)
}
