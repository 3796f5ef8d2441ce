package thumb

import (
	"sourdine/api"
	"sourdine/inst"
)

// Encode: the least half that Decode tells as i, in: within an IT; false, if there is none.
func Encode(i api.Instr, in bool) (uint16, bool) {
	// What of i has no room in a half is cut off there, so that each half is held against i.
	for _, h := range halves(i) {
		if Decode(h, in) == i {
			return h, true
		}
	}
	return 0, false
}

// halves: rising, one of each row that tells i's Op: the only one of its row that may be i.
func halves(i api.Instr) []uint16 {
	switch inst.Class(i.Op) {
	case inst.ClassData:
		return dataHalves(i)
	case inst.ClassLong:
		return lowHalves(i)
	case inst.ClassUnary:
		return unaryHalves(i)
	case inst.ClassMemory:
		return memoryHalves(i)
	case inst.ClassMany:
		return manyHalves(i)
	case inst.ClassBranch:
		return branchHalves(i)
	case inst.ClassOther:
		return otherHalves(i)
	}
	return nil
}

// put: the lowest size bits of v, from bit at on.
func put(v, at, size int) uint16 { return uint16(v) & (1<<size - 1) << at }

// three: two low registers, below what stands from bit 6 on.
func three(row uint16, v, size, n, d int) uint16 {
	return row | put(v, 6, size) | put(n, 3, 3) | put(d, 0, 3)
}

// two: a low register and eight bits.
func two(row uint16, r, v int) uint16 { return row | put(r, 8, 3) | put(v, 0, 8) }

// highHalf: two registers of four bits.
func highHalf(page uint16, d, m int) uint16 {
	return page | put(d>>3, 7, 1) | put(m, 3, 4) | put(d, 0, 3)
}

// dataHalves: of Data.
func dataHalves(i api.Instr) []uint16 {
	v := int(i.Imm)
	switch i.Op {
	case api.Mov:
		return []uint16{three(lslRow, 0, 5, i.M, i.D), two(movRow, i.D, v), highHalf(movPage, i.D, i.M)}
	case api.Lsl:
		return append([]uint16{three(lslRow, v, 5, i.N, i.D)}, lowHalves(i)...)
	case api.Lsr:
		return append([]uint16{three(lsrRow, v, 5, i.N, i.D)}, lowHalves(i)...)
	case api.Asr:
		return append([]uint16{three(asrRow, v, 5, i.N, i.D)}, lowHalves(i)...)
	case api.Add:
		return []uint16{
			three(sumRow, i.M, 3, i.N, i.D), three(sumRow|numberBit, v, 3, i.N, i.D), two(addRow, i.D, v),
			highHalf(addPage, i.D, i.M), two(addSPRow, i.D, v/4), movePage | put(v/4, 0, 7),
		}
	case api.Sub:
		return []uint16{
			three(sumRow|minusBit, i.M, 3, i.N, i.D), three(sumRow|minusBit|numberBit, v, 3, i.N, i.D),
			two(subRow, i.D, v), movePage | downBit | put(v/4, 0, 7),
		}
	case api.Cmp:
		return append(append([]uint16{two(cmpRow, i.N, v)}, lowHalves(i)...), highHalf(cmpPage, i.N, i.M))
	case api.Adr:
		return []uint16{two(adrRow, i.D, v/4)}
	}
	return lowHalves(i)
}

// lowHalves: of the sixteen of two low registers.
func lowHalves(i api.Instr) []uint16 {
	d, m := i.D, i.M
	switch i.Op {
	case api.Tst, api.Cmp, api.Cmn:
		d = i.N
	case api.Rsb, api.Mul:
		m = i.N
	}
	for o, op := range lowOps {
		if op == i.Op {
			return []uint16{three(lowRow, o, 4, m, d)}
		}
	}
	return nil
}

// unaryHalves: of Unary.
func unaryHalves(i api.Instr) []uint16 {
	for o, op := range extOps {
		if op == i.Op {
			return []uint16{three(extPage, o, 2, i.M, i.D)}
		}
	}
	for o, op := range revOps {
		if op == i.Op {
			return []uint16{three(revPage, o, 2, i.M, i.D)}
		}
	}
	return nil
}

// memoryHalves: of Memory.
func memoryHalves(i api.Instr) []uint16 {
	v, byReg := int(i.Imm), byRegHalf(i)
	switch i.Op {
	case api.Str:
		return []uint16{byReg, three(strRow, v/4, 5, i.N, i.D), two(strSPRow, i.D, v/4)}
	case api.Ldr:
		return []uint16{two(literalRow, i.D, v/4), byReg, three(ldrRow, v/4, 5, i.N, i.D), two(ldrSPRow, i.D, v/4)}
	case api.Strb:
		return []uint16{byReg, three(strbRow, v, 5, i.N, i.D)}
	case api.Ldrb:
		return []uint16{byReg, three(ldrbRow, v, 5, i.N, i.D)}
	case api.Strh:
		return []uint16{byReg, three(strhRow, v/2, 5, i.N, i.D)}
	case api.Ldrh:
		return []uint16{byReg, three(ldrhRow, v/2, 5, i.N, i.D)}
	}
	return []uint16{byReg}
}

// byRegHalf: of Memory with a register as its second; each of them has one.
func byRegHalf(i api.Instr) uint16 {
	h := three(byRegRow, i.M, 3, i.N, i.D)
	for o, op := range memoryOps {
		if op == i.Op {
			h |= put(o, 9, 3)
		}
	}
	return h
}

// manyHalves: of Many.
func manyHalves(i api.Instr) []uint16 {
	if i.Op == api.Ldm {
		return []uint16{popPage | put(i.List>>pc, 8, 1) | put(i.List, 0, 8), two(ldmRow, i.N, i.List)}
	}
	return []uint16{pushPage | put(i.List>>lr, 8, 1) | put(i.List, 0, 8), two(stmRow, i.N, i.List)}
}

// branchHalves: of Branch.
func branchHalves(i api.Instr) []uint16 {
	v := int(i.Imm)
	switch i.Op {
	case api.B:
		return []uint16{condRow | put(i.Cond, 8, 4) | put(v/2, 0, 8), branchRow | put(v/2, 0, 11)}
	case api.Bx:
		return []uint16{bxPage | put(i.M, 3, 4)}
	case api.Blx:
		return []uint16{bxPage | callBit | put(i.M, 3, 4)}
	case api.Cbz:
		return []uint16{comparedHalf(cbzPage, i)}
	case api.Cbnz:
		return []uint16{comparedHalf(cbnzPage, i)}
	}
	return nil
}

// comparedHalf: of Cbz, Cbnz.
func comparedHalf(page uint16, i api.Instr) uint16 {
	v := int(i.Imm)
	return page | put(v>>6, 9, 1) | put(v>>1, 3, 5) | put(i.N, 0, 3)
}

// otherHalves: of Other; what may not be has none.
func otherHalves(i api.Instr) []uint16 {
	v := int(i.Imm)
	switch i.Op {
	case api.Nop:
		return []uint16{hintPage | put(v, 4, 4)}
	case api.It:
		return []uint16{hintPage | put(v, 0, 8)}
	case api.Svc:
		return []uint16{svcPage | put(v, 0, 8)}
	case api.Bkpt:
		return []uint16{bkptPage | put(v, 0, 8)}
	}
	return nil
}
