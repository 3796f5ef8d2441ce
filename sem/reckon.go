package sem

import (
	"sourdine/api"
	"sourdine/cond"
	"sourdine/inst"
	"sourdine/word"
)

// data: N and the second give D, or flags alone.
func (w *work) data() api.Errno {
	v, carry, over := w.result()
	if !compares(w.i.Op) {
		w.put(w.i.D, v)
	}
	w.flag(v, carry, over)
	return api.OK
}

// compares: whether one of Data gives flags alone.
func compares(o int) bool {
	switch o {
	case api.Tst, api.Teq, api.Cmp, api.Cmn:
		return true
	}
	return false
}

// flag: the flags that i sets are those of v; the others stay.
func (w *work) flag(v uint32, carry, over bool) {
	sets := inst.Sets(w.i)
	w.behind.Flags = w.before.Flags&^sets | cond.Result(v, carry, over)&sets
}

// result: what one of Data gives, its carry and its overflow, where it has such.
func (w *work) result() (uint32, bool, bool) {
	switch w.i.Op {
	case api.Adr:
		return w.before.R[placeRegister] + w.i.Imm, false, false
	case api.Add, api.Adc, api.Sub, api.Sbc, api.Rsb, api.Cmp, api.Cmn:
		return w.sum()
	case api.Lsl, api.Lsr, api.Asr, api.Ror:
		v, carry := w.shifted()
		return v, carry, false
	}
	v, carry := w.joined()
	return v, carry, false
}

// sum: N and the second together, or the one less the other.
func (w *work) sum() (uint32, bool, bool) {
	n := read(w.before, w.i.N)
	second, _ := Second(w.before, w.i)
	switch w.i.Op {
	case api.Add, api.Cmn:
		return word.AddCarry(n, second, false)
	case api.Adc:
		return word.AddCarry(n, second, carryOf(w.before))
	case api.Sbc:
		return word.AddCarry(n, ^second, carryOf(w.before))
	case api.Rsb:
		return word.AddCarry(second, ^n, true)
	}
	return word.AddCarry(n, ^second, true)
}

// shifted: N, moved by the number that i has, or by M's lowest byte.
func (w *work) shifted() (uint32, bool) {
	by := w.i.Imm
	if !w.i.UseImm {
		by = word.Zero(read(w.before, w.i.M), 8)
	}
	return word.Shift(read(w.before, w.i.N), shiftOf(w.i.Op), int(by), carryOf(w.before))
}

// shiftOf: the shift that an instruction is.
func shiftOf(o int) int {
	switch o {
	case api.Lsl:
		return api.ShLsl
	case api.Lsr:
		return api.ShLsr
	case api.Asr:
		return api.ShAsr
	}
	return api.ShRor
}

// joined: N and the second, bit by bit, and the second's carry.
func (w *work) joined() (uint32, bool) {
	n := read(w.before, w.i.N)
	second, carry := Second(w.before, w.i)
	switch w.i.Op {
	case api.And, api.Tst:
		return n & second, carry
	case api.Eor, api.Teq:
		return n ^ second, carry
	case api.Orr:
		return n | second, carry
	case api.Bic:
		return n &^ second, carry
	case api.Orn:
		return n | ^second, carry
	case api.Mvn:
		return ^second, carry
	}
	return second, carry
}

// long: N and M give D, or D and A together.
func (w *work) long() api.Errno {
	switch w.i.Op {
	case api.Umull, api.Smull, api.Umlal, api.Smlal:
		lower, upper := w.two()
		w.put(w.i.D, lower)
		w.put(w.i.A, upper)
	default:
		v := w.one()
		w.put(w.i.D, v)
		w.flag(v, false, false)
	}
	return api.OK
}

// two: the two words of a product, or of what D and A are and a product together.
func (w *work) two() (uint32, uint32) {
	signed := w.i.Op == api.Smull || w.i.Op == api.Smlal
	lower, upper := word.Mul64(read(w.before, w.i.N), read(w.before, w.i.M), signed)
	if w.i.Op == api.Umull || w.i.Op == api.Smull {
		return lower, upper
	}
	lower, carry, _ := word.AddCarry(lower, read(w.before, w.i.D), false)
	upper, _, _ = word.AddCarry(upper, read(w.before, w.i.A), carry)
	return lower, upper
}

// one: what one of Long gives that gives one word.
func (w *work) one() uint32 {
	n, m := read(w.before, w.i.N), read(w.before, w.i.M)
	lower, _ := word.Mul64(n, m, false)
	switch w.i.Op {
	case api.Mla:
		return read(w.before, w.i.A) + lower
	case api.Mls:
		return read(w.before, w.i.A) - lower
	case api.Udiv:
		return word.DivU(n, m)
	case api.Sdiv:
		return word.DivS(n, m)
	}
	return lower
}

// unary: D is made of one register, or of some bits of one.
func (w *work) unary() api.Errno {
	switch w.i.Op {
	case api.Movt:
		w.put(w.i.D, w.i.Imm<<16|word.Zero(read(w.before, w.i.D), 16))
	case api.Ubfx, api.Sbfx, api.Bfi:
		w.put(w.i.D, w.field())
	default:
		w.put(w.i.D, turned(w.i.Op, read(w.before, w.i.M)))
	}
	return api.OK
}

// field: what D is of a field, which begins at a bit and has so many as its Imm says.
func (w *work) field() uint32 {
	from, many := w.i.Imm%32, int(w.i.Imm/32)
	switch w.i.Op {
	case api.Ubfx:
		return word.Zero(read(w.before, w.i.N)>>from, many)
	case api.Sbfx:
		return word.Sign(read(w.before, w.i.N)>>from, many)
	}
	put := read(w.before, w.i.N)
	if w.i.N == placeRegister {
		put = 0
	}
	mask := word.Zero(0xffffffff, many) << from
	return read(w.before, w.i.D)&^mask | put<<from&mask
}

// turned: what one of Unary makes of a whole register.
func turned(o int, v uint32) uint32 {
	switch o {
	case api.Clz:
		return uint32(word.Clz(v))
	case api.Rbit:
		return word.Rbit(v)
	case api.Rev:
		return word.Rev(v)
	case api.Rev16:
		return word.Rev16(v)
	case api.Revsh:
		return word.Revsh(v)
	case api.Sxtb:
		return word.Sign(v, 8)
	case api.Sxth:
		return word.Sign(v, 16)
	case api.Uxtb:
		return word.Zero(v, 8)
	}
	return word.Zero(v, 16)
}
