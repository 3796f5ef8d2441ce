package fetch

import (
	"sourdine/api"
	"sourdine/mem"
	"sourdine/thumb"
	"sourdine/wide"
)

// code: an instruction's first half, and, if it is wide, its second one.
type code struct {
	first, second uint16
	wide          bool
}

// read: the code at a. A memory nil is one without regions.
func read(m *mem.Mem, a uint32) (code, api.Errno) {
	if m == nil {
		m, _ = mem.New(nil)
	}
	first, err := m.Half(a)
	if err != api.OK {
		return code{}, err
	}
	if !thumb.Wide(uint16(first)) {
		return code{first: uint16(first)}, api.OK
	}
	second, err := m.Half(a + 2)
	if err != api.OK {
		return code{}, err
	}
	return code{first: uint16(first), second: uint16(second), wide: true}, api.OK
}

// decode: the instruction that c is, in: within an IT.
func (c code) decode(in bool) api.Instr {
	if c.wide {
		return wide.Decode(c.first, c.second, in)
	}
	return thumb.Decode(c.first, in)
}

// unpredictable: what c is where it may not stand.
func (c code) unpredictable() api.Instr {
	return api.Instr{Op: api.Unpredictable, Wide: c.wide, Cond: api.Always, Imm: c.word()}
}

// word: c's halves together.
func (c code) word() uint32 {
	if c.wide {
		return uint32(c.first)<<16 | uint32(c.second)
	}
	return uint32(c.first)
}

// encode: the code of i, in: within an IT; false, if there is none.
func encode(i api.Instr, in bool) (code, bool) {
	// Within an IT the condition is the IT's, and stands in no code behind it.
	if in {
		i.Cond = api.Always
	}
	if i.Wide {
		first, second, ok := wide.Encode(i)
		return code{first: first, second: second, wide: true}, ok
	}
	half, ok := thumb.Encode(i, in)
	return code{first: half}, ok
}

// behind: b, and c's bytes behind it.
func (c code) behind(b []byte) []byte {
	b = append(b, byte(c.first), byte(c.first>>8))
	if c.wide {
		b = append(b, byte(c.second), byte(c.second>>8))
	}
	return b
}
