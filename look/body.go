package look

import (
	"stoker/api"
	"stoker/code"
	"stoker/scan"
)

// body is one function's body while it is gone through.
type body struct {
	in      *scan.Reader
	out     *code.Module // the whole one
	globals []global
	locals  []byte  // types, parameters first
	stack   []byte  // types
	blocks  []block // the body, then those in one another
	at      int     // the place of the instruction that is looked at
	closed  bool    // behind what never goes on
}

func newBody(k *looker, in *scan.Reader, typ code.Type) *body {
	b := &body{in: in, out: k.out, globals: k.globals}
	b.blocks = []block{{kind: whole, result: typ.Results}}
	return b
}

func (b *body) look() *scan.Fault {
	for len(b.blocks) > 0 {
		if fault := b.step(); fault != nil {
			return fault
		}
	}
	if b.in.Left() > 0 {
		return scan.Form(b.in.At())
	}
	return nil
}

// wrong is the fault of an instruction that can't stand where it does.
func (b *body) wrong() *scan.Fault { return &scan.Fault{Err: api.ErrType, At: b.at} }

func (b *body) step() *scan.Fault {
	b.at = b.in.At()
	op, fault := b.in.Byte()
	if fault != nil {
		return fault
	}
	shape, ok := find(op)
	if !ok {
		return scan.Form(b.at)
	}
	if b.closed && op != code.Else && op != code.End {
		return b.wrong()
	}
	if shape.behind == own {
		return b.special(op)
	}
	return b.plain(op, shape)
}

// special looks at an instruction whose types hang on what stands around it.
func (b *body) special(op byte) *scan.Fault {
	switch op {
	case code.Unreachable:
		return b.stop()
	case code.Block, code.Loop, code.If:
		return b.open(op)
	case code.Else:
		return b.turn()
	case code.End:
		return b.end()
	case code.Branch, code.BranchIf:
		return b.branch(op)
	case code.BranchTable:
		return b.table()
	case code.Return:
		return b.leave()
	case code.Call:
		return b.call()
	case code.Drop:
		return b.drop()
	case code.Select:
		return b.choose()
	case code.GlobalGet, code.GlobalSet:
		return b.global(op)
	}
	return b.local(op)
}

func (b *body) plain(op byte, shape row) *scan.Fault {
	num, fault := b.behind(shape.behind)
	if fault != nil {
		return fault
	}
	if !b.takeAll([]byte(shape.takes)) {
		return b.wrong()
	}
	b.emit(code.Instr{Op: op, Num: num})
	b.put([]byte(shape.gives)...)
	return nil
}

// behind reads the number behind an instruction, if it has one.
func (b *body) behind(what int) (uint64, *scan.Fault) {
	switch what {
	case withU:
		n, fault := b.in.U()
		return uint64(n), fault
	case with32:
		return readValue(b.in, api.I32)
	case with64:
		return readValue(b.in, api.I64)
	}
	return 0, nil
}

func (b *body) stop() *scan.Fault {
	b.emit(code.Instr{Op: code.Unreachable})
	b.closed = true
	return nil
}

func (b *body) call() *scan.Fault {
	n, fault := b.in.Below(len(b.out.Funcs))
	if fault != nil {
		return fault
	}
	typ := b.out.Funcs[n].Type
	if !b.takeAll(typ.Params) {
		return b.wrong()
	}
	b.emit(code.Instr{Op: code.Call, Num: uint64(n)})
	b.put(typ.Results...)
	return nil
}

func (b *body) drop() *scan.Fault {
	if _, ok := b.takeAny(); !ok {
		return b.wrong()
	}
	b.emit(code.Instr{Op: code.Drop})
	return nil
}

func (b *body) choose() *scan.Fault {
	if !b.take(api.I32) {
		return b.wrong()
	}
	typ, ok := b.takeAny()
	if !ok || !b.take(typ) {
		return b.wrong()
	}
	b.emit(code.Instr{Op: code.Select})
	b.put(typ)
	return nil
}

func (b *body) local(op byte) *scan.Fault {
	n, fault := b.in.Below(len(b.locals))
	if fault != nil {
		return fault
	}
	typ := b.locals[n]
	if op != code.LocalGet && !b.take(typ) {
		return b.wrong()
	}
	b.emit(code.Instr{Op: op, Num: uint64(n)})
	if op != code.LocalSet {
		b.put(typ)
	}
	return nil
}

func (b *body) global(op byte) *scan.Fault {
	n, fault := b.in.Below(len(b.globals))
	if fault != nil {
		return fault
	}
	g := b.globals[n]
	if op == code.GlobalSet && !(g.set && b.take(g.typ)) {
		return b.wrong()
	}
	b.emit(code.Instr{Op: op, Num: uint64(n)})
	if op == code.GlobalGet {
		b.put(g.typ)
	}
	return nil
}

// emit puts an instruction at the end of the list.
func (b *body) emit(next code.Instr) { b.out.Code = append(b.out.Code, next) }

// here is the place in the list of what comes next.
func (b *body) here() int { return len(b.out.Code) }

func (b *body) put(typs ...byte) { b.stack = append(b.stack, typs...) }

// takeAny takes the top off the stack, if it is within reach.
func (b *body) takeAny() (byte, bool) {
	top := len(b.stack) - 1
	if top < b.inner().height {
		return 0, false
	}
	typ := b.stack[top]
	b.stack = b.stack[:top]
	return typ, true
}

func (b *body) take(typ byte) bool {
	got, ok := b.takeAny()
	return ok && got == typ
}

// takeAll takes values of these types, the top last.
func (b *body) takeAll(typs []byte) bool {
	for n := len(typs) - 1; n >= 0; n-- {
		if !b.take(typs[n]) {
			return false
		}
	}
	return true
}
