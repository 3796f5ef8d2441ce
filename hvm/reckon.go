package hvm

import (
	"sourdine/api"
	"sourdine/word"
)

// reckoner: what an instruction puts into D, where that hangs on the registers and on itself alone.
type reckoner func(h api.Host, r registers) uint32

// reckoners: by its kind, how an instruction reckons; nothing of those that touch memory or go elsewhere.
func reckoners() [api.HOps]reckoner {
	return [api.HOps]reckoner{
		api.HMovI: func(h api.Host, _ registers) uint32 { return h.Imm },
		api.HMov:  func(h api.Host, r registers) uint32 { return r[h.A] },
		api.HAdd:  func(h api.Host, r registers) uint32 { return r[h.A] + r[h.B] },
		api.HSub:  func(h api.Host, r registers) uint32 { return r[h.A] - r[h.B] },
		api.HAnd:  func(h api.Host, r registers) uint32 { return r[h.A] & r[h.B] },
		api.HOr:   func(h api.Host, r registers) uint32 { return r[h.A] | r[h.B] },
		api.HXor:  func(h api.Host, r registers) uint32 { return r[h.A] ^ r[h.B] },
		api.HShl:  func(h api.Host, r registers) uint32 { return shift(h, r, api.ShLsl) },
		api.HShr:  func(h api.Host, r registers) uint32 { return shift(h, r, api.ShLsr) },
		api.HSar:  func(h api.Host, r registers) uint32 { return shift(h, r, api.ShAsr) },
		api.HRor:  func(h api.Host, r registers) uint32 { return shift(h, r, api.ShRor) },
		api.HMul:  func(h api.Host, r registers) uint32 { return r[h.A] * r[h.B] },
		api.HMulU: func(h api.Host, r registers) uint32 { return upper(h, r, false) },
		api.HMulS: func(h api.Host, r registers) uint32 { return upper(h, r, true) },
		api.HDivU: func(h api.Host, r registers) uint32 { return word.DivU(r[h.A], r[h.B]) },
		api.HDivS: func(h api.Host, r registers) uint32 { return word.DivS(r[h.A], r[h.B]) },
		api.HClz:  func(h api.Host, r registers) uint32 { return uint32(word.Clz(r[h.A])) },
		api.HLtU:  func(h api.Host, r registers) uint32 { return one(r[h.A] < r[h.B]) },
		api.HLtS:  func(h api.Host, r registers) uint32 { return one(int32(r[h.A]) < int32(r[h.B])) },
		api.HEq:   func(h api.Host, r registers) uint32 { return one(r[h.A] == r[h.B]) },
		api.HSel:  choose,
	}
}

// shift: A, moved by B modulo 32, so that no count of word.Shift's above 31 is met.
func shift(h api.Host, r registers, kind int) uint32 {
	v, _ := word.Shift(r[h.A], kind, int(r[h.B]%32), false)
	return v
}

// upper: the upper half of the product.
func upper(h api.Host, r registers, signed bool) uint32 {
	_, v := word.Mul64(r[h.A], r[h.B], signed)
	return v
}

// one: 1 of what holds, else 0.
func one(holds bool) uint32 {
	if holds {
		return 1
	}
	return 0
}

// choose: A where C isn't 0, else B.
func choose(h api.Host, r registers) uint32 {
	if r[h.C] != 0 {
		return r[h.A]
	}
	return r[h.B]
}
