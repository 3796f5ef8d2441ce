// Package word: Words of 32 bits: see doc/01-word.md.
package word

import (
	"math/bits"

	"sourdine/api"
)

// AddCarry: a, b and carry together; whether it went over unsigned; whether it went over signed.
func AddCarry(a, b uint32, carry bool) (uint32, bool, bool) {
	var in uint32
	if carry {
		in = 1
	}
	sum, out := bits.Add32(a, b, in)
	// A signed sum goes over only where a and b have one sign and the sum has the other.
	over := (a^sum)&(b^sum)>>31 == 1
	return sum, out == 1, over
}

// Shift: v, moved by n as kind says, and the last bit that went out.
func Shift(v uint32, kind, n int, carry bool) (uint32, bool) {
	n = min(max(n, 0), 255)
	if kind == api.ShRrx {
		return turnThrough(v, carry)
	}
	if n == 0 {
		return v, carry
	}
	switch kind {
	case api.ShLsl:
		// 64 bits keep the last bit that went out just above the word.
		moved := uint64(v) << n
		return uint32(moved), moved>>32&1 == 1
	case api.ShLsr:
		return v >> n, v>>(n-1)&1 == 1
	case api.ShAsr:
		signed := int32(v)
		return uint32(signed >> n), signed>>(n-1)&1 == 1
	case api.ShRor:
		turned := bits.RotateLeft32(v, -n)
		return turned, turned>>31 == 1
	default:
		return v, carry
	}
}

// turnThrough: ShRrx, which has no count of its own.
func turnThrough(v uint32, carry bool) (uint32, bool) {
	moved := v >> 1
	if carry {
		moved |= 1 << 31
	}
	return moved, v&1 == 1
}

// Expand: the word that imm12 stands for, its carry, and whether it may stand there.
func Expand(imm12 uint32, carry bool) (uint32, bool, bool) {
	low := imm12 & 0xff
	if imm12&0xc00 != 0 {
		v := bits.RotateLeft32(low|0x80, -int(imm12>>7&31))
		return v, v>>31 == 1, true
	}
	form := imm12 >> 8 & 3
	return spread(low, form), carry, form == 0 || low != 0
}

// spread: the byte low, laid where the forms 0 to 3 of Expand repeat it.
func spread(low, form uint32) uint32 {
	switch form {
	case 1:
		return low * 0x00010001
	case 2:
		return low * 0x01000100
	case 3:
		return low * 0x01010101
	default:
		return low
	}
}

// Compress: the least imm12 that Expand makes v of.
func Compress(v uint32) (uint32, bool) {
	low, next := v&0xff, v>>8&0xff
	// From the least form on: 0 is met by the first, so none of the others repeats a byte 0.
	switch v {
	case spread(low, 0):
		return low, true
	case spread(low, 1):
		return 0x100 | low, true
	case spread(next, 2):
		return 0x200 | next, true
	case spread(low, 3):
		return 0x300 | low, true
	}
	return compressTurned(v)
}

// compressTurned: the imm12 of a v above 255 that is a byte 1bcdefgh, turned.
func compressTurned(v uint32) (uint32, bool) {
	// The highest bit of v can only be the byte's own, so there is just one turn to try.
	turn := bits.LeadingZeros32(v) + 8
	low := bits.RotateLeft32(v, turn)
	if low > 0xff {
		return 0, false
	}
	return uint32(turn)<<7 | low&0x7f, true
}

// Clz: how many noughts v begins with.
func Clz(v uint32) int { return bits.LeadingZeros32(v) }

// Rbit: v's bits the other way about.
func Rbit(v uint32) uint32 { return bits.Reverse32(v) }

// Rev: v's bytes the other way about.
func Rev(v uint32) uint32 { return bits.ReverseBytes32(v) }

// Rev16: the two bytes of each half of v the other way about.
func Rev16(v uint32) uint32 { return v>>8&0x00ff00ff | v<<8&0xff00ff00 }

// Revsh: the two bytes of v's lower half the other way about, with the sign.
func Revsh(v uint32) uint32 { return Sign(Rev16(v), 16) }

// Sign: v's lowest bits, with the highest of these above.
func Sign(v uint32, bits int) uint32 {
	above := bitsAbove(bits)
	return uint32(int32(v<<above) >> above)
}

// Zero: v's lowest bits, with noughts above.
func Zero(v uint32, bits int) uint32 {
	above := bitsAbove(bits)
	return v << above >> above
}

// bitsAbove: how many bits of a word lie above its lowest count ones.
func bitsAbove(count int) int { return 32 - min(max(count, 1), 32) }

// Mul64: the lower and the upper 32 bits of the product.
func Mul64(a, b uint32, signed bool) (uint32, uint32) {
	product := uint64(a) * uint64(b)
	if signed {
		product = uint64(int64(int32(a)) * int64(int32(b)))
	}
	return uint32(product), uint32(product >> 32)
}

// DivU: a by b, unsigned; 0 of a b 0.
func DivU(a, b uint32) uint32 {
	if b == 0 {
		return 0
	}
	return a / b
}

// DivS: a by b, signed, towards nought; 0 of a b 0.
func DivS(a, b uint32) uint32 {
	if b == 0 {
		return 0
	}
	// The least by -1 fits no int32; in 64 bits it does, and its lowest 32 bits are the least again.
	return uint32(int64(int32(a)) / int64(int32(b)))
}
