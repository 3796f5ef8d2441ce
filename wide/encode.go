package wide

import (
	"sourdine/api"
	"sourdine/inst"
	"sourdine/word"
)

// Encode: the two halves that Decode tells as i; false, if there are none.
func Encode(i api.Instr) (uint16, uint16, bool) {
	w := wordOf(i)
	// What of i has no room in a word is cut off there, so that the word is held against i.
	if i.Op == api.Undefined || alone(w) != i {
		return 0, 0, false
	}
	return uint16(w >> 16), uint16(w), true
}

// wordOf: the only word that may be i; 0, which is Undefined, if there is none.
func wordOf(i api.Instr) uint32 {
	switch inst.Class(i.Op) {
	case inst.ClassData:
		return dataWord(i)
	case inst.ClassLong:
		return longWord(i)
	case inst.ClassUnary:
		return unaryWord(i)
	case inst.ClassMemory:
		return memoryWord(i)
	case inst.ClassMany:
		return manyWord(i)
	case inst.ClassBranch:
		return branchWord(i)
	}
	return 0
}

// put: the lowest size bits of v, from bit at on.
func put(v, at, size int) uint32 { return uint32(v) & (1<<size - 1) << at }

// four: four registers.
func four(d, n, m, a int) uint32 {
	return put(d, dAt, 4) | put(n, nAt, 4) | put(m, mAt, 4) | put(a, aAt, 4)
}

// flag: bit, where it is set; else none.
func flag(set bool, bit uint32) uint32 {
	if set {
		return bit
	}
	return 0
}

// numberBits: twelve bits, laid where number takes them from.
func numberBits(v int) uint32 { return put(v>>11, 26, 1) | put(v>>8, 12, 3) | put(v, 0, 8) }

// dataWord: of Data.
func dataWord(i api.Instr) uint32 {
	switch i.Op {
	case api.Lsl, api.Lsr, api.Asr, api.Ror:
		return registerRow(i.Op) | four(i.D, i.N, i.M, 0b1111) | flag(i.S, setBit)
	case api.Adr:
		return 0
	}
	switch {
	case i.UseImm && i.A == notWritten:
		return plainWord(i)
	case i.UseImm:
		imm12, _ := word.Compress(i.Imm)
		return modifiedGroup | dataBits(i) | numberBits(int(imm12))
	}
	t, by := shiftBits(i.Sh, i.Amt)
	return shiftedGroup | dataBits(i) | put(i.M, mAt, 4) | put(t, 4, 2) | put(by>>2, 12, 3) | put(by, 6, 2)
}

// dataBits: of Data, what the first two rows say without their second.
func dataBits(i api.Instr) uint32 {
	set := flag(i.S, setBit)
	for o := range 16 {
		op := dataOp(o)
		switch i.Op {
		case op:
			return put(o, 21, 4) | set | four(i.D, i.N, 0, 0)
		case withoutD(op):
			return put(o, 21, 4) | set | four(pc, i.N, 0, 0)
		case withoutN(op):
			return put(o, 21, 4) | set | four(i.D, pc, 0, 0)
		}
	}
	return 0
}

// shiftBits: what shift tells as this kind and count.
func shiftBits(kind, by int) (int, int) {
	switch kind {
	case api.ShLsl:
		return 0, by
	case api.ShLsr:
		return 1, by
	case api.ShAsr:
		return 2, by
	case api.ShRor:
		return 3, by
	case api.ShRrx:
		return 3, 0
	}
	return 0, 0
}

// plainWord: with a number as it stands.
func plainWord(i api.Instr) uint32 {
	v := int(i.Imm)
	switch i.Op {
	case api.Add:
		return plainGroup | plainAdd | four(i.D, i.N, 0, 0) | numberBits(v)
	case api.Sub:
		return plainGroup | plainSub | four(i.D, i.N, 0, 0) | numberBits(v)
	case api.Mov:
		return plainGroup | plainMov | four(i.D, v>>12, 0, 0) | numberBits(v)
	case api.Movt:
		return plainGroup | plainMovt | four(i.D, v>>12, 0, 0) | numberBits(v)
	}
	return 0
}

// longWord: of Long.
func longWord(i api.Instr) uint32 {
	switch i.Op {
	case api.Umull, api.Smull, api.Umlal, api.Smlal:
		return registerRow(i.Op) | four(i.A, i.N, i.M, i.D)
	case api.Mla, api.Mls:
		return registerRow(i.Op) | four(i.D, i.N, i.M, i.A)
	case api.Mul:
		return registerRow(api.Mla) | four(i.D, i.N, i.M, 0b1111)
	}
	return registerRow(i.Op) | four(i.D, i.N, i.M, 0b1111)
}

// unaryWord: of Unary.
func unaryWord(i api.Instr) uint32 {
	switch i.Op {
	case api.Movt:
		return plainWord(i)
	case api.Sbfx:
		return plainGroup | plainSbfx | fieldBits(i)
	case api.Ubfx:
		return plainGroup | plainUbfx | fieldBits(i)
	case api.Bfi:
		return plainGroup | plainBfi | fieldBits(i)
	case api.Sxth, api.Uxth, api.Sxtb, api.Uxtb:
		return registerRow(i.Op) | four(i.D, 0b1111, i.M, 0b1111)
	}
	return registerRow(i.Op) | four(i.D, i.M, i.M, 0b1111)
}

// fieldBits: of a bit field.
func fieldBits(i api.Instr) uint32 {
	from, last := int(i.Imm%32), int(i.Imm/32)-1
	if i.Op == api.Bfi {
		last += from
	}
	return four(i.D, i.N, 0, 0) | put(from>>2, 12, 3) | put(from, 6, 2) | put(last, 0, 5)
}

// memoryWord: of Memory.
func memoryWord(i api.Instr) uint32 {
	row := memoryGroup | memoryBits(i.Op) | put(i.D, aAt, 4) | put(i.N, nAt, 4)
	switch {
	case !i.UseImm:
		return row | put(i.M, mAt, 4) | put(i.Amt, 4, 2)
	case i.N == pc && i.Imm>>31 == 1:
		return row | -i.Imm&0xfff
	}
	return row | aboveBit | i.Imm&0xfff
}

// memoryBits: what memoryOp takes for op.
func memoryBits(op int) uint32 {
	switch op {
	case api.Strh:
		return halfSize
	case api.Str:
		return wordSize
	case api.Ldrb:
		return loadBit | byteSize
	case api.Ldrh:
		return loadBit | halfSize
	case api.Ldr:
		return loadBit | wordSize
	case api.Ldrsb:
		return signedBit | loadBit | byteSize
	case api.Ldrsh:
		return signedBit | loadBit | halfSize
	}
	return byteSize
}

// manyWord: of Many.
func manyWord(i api.Instr) uint32 {
	row := manyGroup | put(i.N, nAt, 4) | put(i.List, 0, 16) | flag(i.Back, backBit) | flag(i.Op == api.Ldm, loadBit)
	if i.Down {
		return row | downWay
	}
	return row | upWay
}

// branchWord: of Branch.
func branchWord(i api.Instr) uint32 {
	switch {
	case i.Op == api.B && i.Cond == api.Always:
		return jumpRow | branchKind | farBits(int(i.Imm))
	case i.Op == api.B:
		v := int(i.Imm)
		return jumpRow | condKind | put(i.Cond, 22, 4) | put(v>>20, 26, 1) | put(v>>19, 11, 1) |
			put(v>>18, 13, 1) | put(v>>12, 16, 6) | put(v>>1, 0, 11)
	case i.Op == api.Bl:
		return jumpRow | linkKind | farBits(int(i.Imm))
	}
	return 0
}

// farBits: what far tells as v.
func farBits(v int) uint32 {
	s := v >> 24 & 1
	return put(s, 26, 1) | put(like(v>>23&1, s), 13, 1) | put(like(v>>22&1, s), 11, 1) | put(v>>12, 16, 10) | put(v>>1, 0, 11)
}

// registerRow: what registerOp takes for op.
func registerRow(op int) uint32 {
	switch op {
	case api.Lsl:
		return lslRow
	case api.Lsr:
		return lsrRow
	case api.Asr:
		return asrRow
	case api.Ror:
		return rorRow
	case api.Sxth:
		return sxthRow
	case api.Uxth:
		return uxthRow
	case api.Sxtb:
		return sxtbRow
	case api.Uxtb:
		return uxtbRow
	case api.Rev:
		return revRow
	case api.Rev16:
		return rev16Row
	case api.Rbit:
		return rbitRow
	case api.Revsh:
		return revshRow
	case api.Clz:
		return clzRow
	case api.Mla:
		return mlaRow
	case api.Mls:
		return mlsRow
	case api.Smull:
		return smullRow
	case api.Umull:
		return umullRow
	case api.Smlal:
		return smlalRow
	case api.Umlal:
		return umlalRow
	case api.Sdiv:
		return sdivRow
	case api.Udiv:
		return udivRow
	}
	return 0
}
