// Package look looks at a module's bytes, from the front to the end, and turns them into a flat list of instructions.
package look

import (
	"stoker/api"
	"stoker/code"
	"stoker/scan"
)

// The bytes that may stand at a place.
const (
	magic      = "STK\x01"
	types      = i + l
	blockTypes = types + "\x40"
	settable   = "\x01"
	flags      = "\x00" + settable
)

// global is what a body must know of a global.
type global struct {
	typ byte
	set bool // it may be set
}

type looker struct {
	in      *scan.Reader
	types   []code.Type
	globals []global
	out     *code.Module
}

// Module looks at a module: it is either given or what is wrong with it.
func Module(data []byte) (*code.Module, *scan.Fault) {
	if len(data) > api.MaxBytes {
		return nil, &scan.Fault{Err: api.ErrLong}
	}
	k := &looker{in: scan.New(data), out: &code.Module{}}
	parts := []func() *scan.Fault{k.readMagic, k.readTypes, k.readFuncs, k.readGlobals, k.readPages, k.readBodies, k.readEnd}
	for _, part := range parts {
		if fault := part(); fault != nil {
			return nil, fault
		}
	}
	return k.out, nil
}

func (k *looker) readMagic() *scan.Fault {
	for n := range len(magic) {
		if _, fault := k.in.OneOf(magic[n : n+1]); fault != nil {
			return fault
		}
	}
	return nil
}

func (k *looker) readTypes() *scan.Fault {
	count, fault := k.in.Below(api.MaxTypes + 1)
	if fault != nil {
		return fault
	}
	for range count {
		params, fault := readList(k.in, api.MaxParams)
		if fault != nil {
			return fault
		}
		results, fault := readList(k.in, 1)
		if fault != nil {
			return fault
		}
		k.types = append(k.types, code.Type{Params: params, Results: results})
	}
	return nil
}

// readList reads how many types there are, and these.
func readList(in *scan.Reader, most int) ([]byte, *scan.Fault) {
	count, fault := in.Below(most + 1)
	if fault != nil {
		return nil, fault
	}
	list := []byte{}
	for range count {
		typ, fault := in.OneOf(types)
		if fault != nil {
			return nil, fault
		}
		list = append(list, typ)
	}
	return list, nil
}

func (k *looker) readFuncs() *scan.Fault {
	count, fault := k.in.Below(api.MaxFuncs + 1)
	if fault != nil {
		return fault
	}
	for range count {
		n, fault := k.in.Below(len(k.types))
		if fault != nil {
			return fault
		}
		k.out.Funcs = append(k.out.Funcs, code.Func{Type: k.types[n]})
	}
	return nil
}

func (k *looker) readGlobals() *scan.Fault {
	count, fault := k.in.Below(api.MaxGlobals + 1)
	if fault != nil {
		return fault
	}
	for range count {
		if fault := k.readGlobal(); fault != nil {
			return fault
		}
	}
	return nil
}

func (k *looker) readGlobal() *scan.Fault {
	typ, fault := k.in.OneOf(types)
	if fault != nil {
		return fault
	}
	flag, fault := k.in.OneOf(flags)
	if fault != nil {
		return fault
	}
	value, fault := readValue(k.in, typ)
	if fault != nil {
		return fault
	}
	k.globals = append(k.globals, global{typ: typ, set: flag == settable[0]})
	k.out.Globals = append(k.out.Globals, value)
	return nil
}

// readValue reads a signed number of the type, as the machine holds it: an I32 has nothing above its 32 bits.
func readValue(in *scan.Reader, typ byte) (uint64, *scan.Fault) {
	if typ == api.I32 {
		n, fault := in.S32()
		return uint64(uint32(n)), fault
	}
	n, fault := in.S64()
	return uint64(n), fault
}

func (k *looker) readPages() *scan.Fault {
	pages, fault := k.in.Below(api.MaxPages + 1)
	k.out.Pages = pages
	return fault
}

func (k *looker) readBodies() *scan.Fault {
	for n := range k.out.Funcs {
		start := k.in.At()
		size, fault := k.in.U()
		if fault != nil {
			return fault
		}
		if int64(size) > int64(k.in.Left()) {
			return scan.Form(start)
		}
		if fault := k.readBody(k.in.Part(int(size)), &k.out.Funcs[n]); fault != nil {
			return fault
		}
	}
	return nil
}

func (k *looker) readBody(in *scan.Reader, f *code.Func) *scan.Fault {
	params := f.Type.Params
	more, fault := readList(in, api.MaxLocals-len(params))
	if fault != nil {
		return fault
	}
	f.Locals = len(params) + len(more)
	f.Entry = len(k.out.Code)
	b := newBody(k, in, f.Type)
	b.locals = append(append(b.locals, params...), more...)
	return b.look()
}

func (k *looker) readEnd() *scan.Fault {
	if k.in.Left() > 0 {
		return scan.Form(k.in.At())
	}
	return nil
}
