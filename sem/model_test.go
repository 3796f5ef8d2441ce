package sem_test

import (
	"sourdine/api"
	"sourdine/inst"
)

// part: a region, and what is there now.
type part struct {
	api.Region
	now []byte
}

// model: the chapter once more, register by register, bit by bit, byte by byte.
type model struct {
	was        [16]uint32
	now        [16]uint32
	n, z, c, v bool
	handler    bool
	parts      []part
	obs        []api.Obs
}

// newModel: what s and l are, with all their bytes.
func newModel(s api.State, l []api.Region) *model {
	o := &model{was: s.R, now: s.R, handler: s.Handler}
	o.n, o.z, o.c, o.v = s.Flags&8 != 0, s.Flags&4 != 0, s.Flags&2 != 0, s.Flags&1 != 0
	for _, r := range l {
		b := make([]byte, r.Len)
		copy(b, r.Bytes)
		o.parts = append(o.parts, part{r, b})
	}
	return o
}

// flags: the model's, as api has them.
func (o *model) flags() int {
	f := 0
	for _, x := range []bool{o.n, o.z, o.c, o.v} {
		f *= 2
		if x {
			f++
		}
	}
	return f
}

// state: the model's, as api has it.
func (o *model) state() api.State {
	return api.State{R: o.now, Flags: o.flags(), Handler: o.handler}
}

// holds: the conditions by their names.
func (o *model) holds(c int) bool {
	return []bool{
		o.z, !o.z, o.c, !o.c, o.n, !o.n, o.v, !o.v,
		o.c && !o.z, !(o.c && !o.z), o.n == o.v, o.n != o.v,
		!o.z && o.n == o.v, !(!o.z && o.n == o.v), true,
	}[c]
}

// reads: a register, of which 15 is the base of the place.
func (o *model) reads(r int, place uint32) uint32 {
	if r == 15 {
		p := place + 4
		return p - p%4
	}
	return o.was[r]
}

// part: where n bytes from a on lie.
func (o *model) part(a, n uint32) (part, bool) {
	for _, p := range o.parts {
		if uint64(a) >= uint64(p.From) && uint64(a)+uint64(n) <= uint64(p.From)+uint64(p.Len) {
			return p, true
		}
	}
	return part{}, false
}

// load: byte by byte, and what is seen of it.
func (o *model) load(a, n uint32) (uint32, api.Errno) {
	o.obs = append(o.obs, api.Obs{Kind: api.ObsLoad, A: a})
	if a%n != 0 {
		return 0, api.ErrAlign
	}
	p, ok := o.part(a, n)
	if !ok || !p.Read {
		return 0, api.ErrAccess
	}
	v := uint32(0)
	for k := n; k > 0; k-- {
		v = v*256 + uint32(p.now[a-p.From+k-1])
	}
	return v, 0
}

// store: byte by byte, and what is seen of it.
func (o *model) store(a, n, v uint32) api.Errno {
	o.obs = append(o.obs, api.Obs{Kind: api.ObsStore, A: a})
	if a%n != 0 {
		return api.ErrAlign
	}
	p, ok := o.part(a, n)
	if !ok || !p.Write {
		return api.ErrAccess
	}
	told := uint64(0)
	for k := range n {
		p.now[a-p.From+k] = byte(v >> (8 * k))
		told += uint64(byte(v>>(8*k))) << (8 * k)
	}
	if p.Exec {
		o.obs = append(o.obs, api.Obs{Kind: api.ObsCode, A: uint32(told)})
	}
	return 0
}

// shifted: v, moved bit by bit.
func shifted(v uint32, kind, n int, c bool) (uint32, bool) {
	if kind == api.ShNone {
		return v, c
	}
	for ; n > 0; n-- {
		top, low := v&(1<<31), v&1
		switch kind {
		case api.ShLsl:
			v, c = v*2, top != 0
		case api.ShLsr:
			v, c = v/2, low != 0
		case api.ShAsr:
			v, c = v/2+top, low != 0
		case api.ShRor:
			v, c = v/2+low<<31, low != 0
		case api.ShRrx:
			up := uint32(0)
			if c {
				up = 1 << 31
			}
			return v/2 + up, low != 0
		}
	}
	return v, c
}

// second: the second and its carry.
func (o *model) second(i api.Instr, place uint32) (uint32, bool) {
	if !i.UseImm {
		return shifted(o.reads(i.M, place), i.Sh, i.Amt, o.c)
	}
	if i.A == 1 {
		return i.Imm, i.Imm >= 1<<31
	}
	return i.Imm, o.c
}

// plus, less: sums by exact numbers, unsigned and signed.
func plus(a, b, more uint32) (uint32, bool, bool) {
	v := a + b + more
	exact := int64(int32(a)) + int64(int32(b)) + int64(more)
	return v, uint64(a)+uint64(b)+uint64(more) > 0xffffffff, exact != int64(int32(v))
}

func less(a, b, more uint32) (uint32, bool, bool) {
	v := a - b - more
	exact := int64(int32(a)) - int64(int32(b)) - int64(more)
	return v, uint64(a) >= uint64(b)+uint64(more), exact != int64(int32(v))
}

// one: 1 of true.
func one(b bool) uint32 {
	if b {
		return 1
	}
	return 0
}

// data: one of Data: its result, its carry, its overflow; where it has none, as they were.
func (o *model) data(i api.Instr, place uint32) (uint32, bool, bool) {
	n := o.reads(i.N, place)
	x, carry := o.second(i, place)
	switch i.Op {
	case api.And, api.Tst:
		return n & x, carry, o.v
	case api.Eor, api.Teq:
		return n ^ x, carry, o.v
	case api.Orr:
		return n | x, carry, o.v
	case api.Orn:
		return n | (0xffffffff - x), carry, o.v
	case api.Bic:
		return n & (0xffffffff - x), carry, o.v
	case api.Mov:
		return x, carry, o.v
	case api.Mvn:
		return 0xffffffff - x, carry, o.v
	case api.Add, api.Cmn:
		return plus(n, x, 0)
	case api.Adc:
		return plus(n, x, one(o.c))
	case api.Sub, api.Cmp:
		return less(n, x, 0)
	case api.Sbc:
		return less(n, x, one(!o.c))
	case api.Rsb:
		return less(x, n, 0)
	case api.Adr:
		return o.reads(15, place) + i.Imm, o.c, o.v
	}
	by := i.Imm
	if !i.UseImm {
		by = o.reads(i.M, place) % 256
	}
	kind := map[int]int{api.Lsl: api.ShLsl, api.Lsr: api.ShLsr, api.Asr: api.ShAsr, api.Ror: api.ShRor}[i.Op]
	v, c := shifted(n, kind, int(by), o.c)
	return v, c, o.v
}

// long: one of Long: D and A; A stays where it isn't told.
func (o *model) long(i api.Instr) (uint32, uint32) {
	n, m, d, a := o.was[i.N], o.was[i.M], o.was[i.D], o.was[i.A]
	unsigned := uint64(n) * uint64(m)
	signed := uint64(int64(int32(n)) * int64(int32(m)))
	both := uint64(a)<<32 + uint64(d)
	switch i.Op {
	case api.Mul:
		return n * m, a
	case api.Mla:
		return a + n*m, a
	case api.Mls:
		return a - n*m, a
	case api.Umull:
		return uint32(unsigned), uint32(unsigned >> 32)
	case api.Smull:
		return uint32(signed), uint32(signed >> 32)
	case api.Umlal:
		return uint32(both + unsigned), uint32((both + unsigned) >> 32)
	case api.Smlal:
		return uint32(both + signed), uint32((both + signed) >> 32)
	case api.Udiv:
		if m == 0 {
			return 0, a
		}
		return n / m, a
	}
	if m == 0 {
		return 0, a
	}
	return uint32(int64(int32(n)) / int64(int32(m))), a
}

// bit: one bit of v.
func bit(v uint32, k int) uint32 { return v >> k % 2 }

// byBits: a word whose bit k is f of k.
func byBits(f func(k int) uint32) uint32 {
	v := uint32(0)
	for k := range 32 {
		v += f(k) << k
	}
	return v
}

// unary: one of Unary, bit by bit.
func (o *model) unary(i api.Instr) uint32 {
	n, m, d := o.was[i.N], o.was[i.M], o.was[i.D]
	from, many := int(i.Imm%32), int(i.Imm/32)
	return byBits(func(k int) uint32 {
		switch i.Op {
		case api.Movt:
			return bit(uint32(uint64(i.Imm)*65536+uint64(d%65536)), k)
		case api.Ubfx:
			if k < many {
				return bit(n, from+k)
			}
			return 0
		case api.Sbfx:
			return bit(n, from+min(k, many-1))
		case api.Bfi:
			if k < from || k >= from+many {
				return bit(d, k)
			}
			if i.N == 15 {
				return 0
			}
			return bit(n, k-from)
		case api.Clz:
			zeros := uint32(0)
			for zeros < 32 && bit(m, 31-int(zeros)) == 0 {
				zeros++
			}
			return bit(zeros, k)
		case api.Rbit:
			return bit(m, 31-k)
		case api.Rev:
			return bit(m, 24-k/8*8+k%8)
		case api.Rev16:
			return bit(m, k/16*16+8-k%16/8*8+k%8)
		case api.Revsh:
			return bit(m, []int{8 + k%8, k % 8, 7, 7}[k/8])
		case api.Sxtb:
			return bit(m, min(k, 7))
		case api.Sxth:
			return bit(m, min(k, 15))
		case api.Uxtb:
			return bit(m, k) * one(k < 8)
		}
		return bit(m, k) * one(k < 16)
	})
}

// first: the chapter's Address.
func (o *model) first(i api.Instr, place uint32) uint32 {
	n := o.reads(i.N, place)
	switch inst.Class(i.Op) {
	case inst.ClassMemory:
		if i.UseImm {
			return n + i.Imm
		}
		return n + o.reads(i.M, place)<<i.Amt
	case inst.ClassMany:
		if !i.Down {
			return n
		}
		for r := range 16 {
			n -= 4 * uint32(i.List>>r%2)
		}
		return n
	}
	return 0
}

// memory: one of Memory, done.
func (o *model) memory(i api.Instr, place uint32) api.Errno {
	a := o.first(i, place)
	size := map[int]uint32{api.Ldr: 4, api.Str: 4, api.Ldrb: 1, api.Ldrsb: 1, api.Strb: 1, api.Ldrh: 2, api.Ldrsh: 2, api.Strh: 2}[i.Op]
	if i.Op == api.Str || i.Op == api.Strb || i.Op == api.Strh {
		return o.store(a, size, o.was[i.D])
	}
	v, err := o.load(a, size)
	if err != 0 {
		return err
	}
	if i.Op == api.Ldrsb && v >= 0x80 || i.Op == api.Ldrsh && v >= 0x8000 {
		v -= 1 << (8 * size)
	}
	o.now[i.D] = v
	return 0
}

// many: one of Many, done.
func (o *model) many(i api.Instr, place uint32) api.Errno {
	a := o.first(i, place)
	n := a
	for r := range 16 {
		if i.List>>r%2 == 0 {
			continue
		}
		var err api.Errno
		if i.Op == api.Stm {
			err = o.store(a, 4, o.was[r])
		} else {
			o.now[r], err = o.load(a, 4)
		}
		if err != 0 {
			return err
		}
		a += 4
	}
	if !i.Down {
		n = a
	}
	if i.Back {
		o.now[i.N] = n
	}
	if i.Op == api.Ldm && i.List >= 1<<15 {
		return o.to(o.now[15])
	}
	return 0
}

// to: on to a value.
func (o *model) to(v uint32) api.Errno {
	if v == 4294967289 {
		o.now[15] = v
		return 0
	}
	o.now[15] = v / 2 * 2
	if v%2 == 0 {
		return api.ErrState
	}
	return 0
}

// branch: one of Branch, done.
func (o *model) branch(i api.Instr, place uint32) api.Errno {
	there := uint32(uint64(place) + 4 + uint64(i.Imm))
	switch i.Op {
	case api.Bl:
		o.now[14] = place + 5
		o.now[15] = there
	case api.Blx:
		o.now[14] = place + 3
		return o.to(o.was[i.M])
	case api.Bx:
		return o.to(o.was[i.M])
	case api.B:
		o.now[15] = there
	case api.Cbz:
		if o.was[i.N] == 0 {
			o.now[15] = there
		}
	case api.Cbnz:
		if o.was[i.N] > 0 {
			o.now[15] = there
		}
	}
	return 0
}

// does: i, whose Cond holds, done.
func (o *model) does(i api.Instr, place uint32) api.Errno {
	switch inst.Class(i.Op) {
	case inst.ClassData:
		v, c, over := o.data(i, place)
		told := i.Op == api.Tst || i.Op == api.Teq || i.Op == api.Cmp || i.Op == api.Cmn
		if !told {
			o.now[i.D] = v
		}
		if told || i.S {
			o.n, o.z, o.c, o.v = v >= 1<<31, v == 0, c, over
		}
	case inst.ClassLong:
		d, a := o.long(i)
		o.now[i.A] = a
		o.now[i.D] = d
		if i.S {
			o.n, o.z = d >= 1<<31, d == 0
		}
	case inst.ClassUnary:
		o.now[i.D] = o.unary(i)
	case inst.ClassMemory:
		return o.memory(i, place)
	case inst.ClassMany:
		return o.many(i, place)
	case inst.ClassBranch:
		return o.branch(i, place)
	}
	return map[int]api.Errno{api.Bkpt: 29, api.Undefined: 27, api.Unpredictable: 28}[i.Op]
}

// step: what i, at place, makes of s; its Obs, its error, and what is there in memory then.
func (o *model) step(s api.State, place uint32, i api.Instr) (api.State, []api.Obs, api.Errno) {
	o.obs = []api.Obs{{Kind: api.ObsPC, A: place}}
	o.now[15] = place + 2
	if i.Wide {
		o.now[15] += 2
	}
	if !o.holds(i.Cond) {
		return o.state(), o.obs, 0
	}
	if err := o.does(i, place); err != 0 {
		return s, o.obs, err
	}
	return o.state(), o.obs, 0
}
