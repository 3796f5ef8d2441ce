package inst_test

import (
	"fmt"
	"math/bits"
	"math/rand"
	"slices"
	"testing"

	"sourdine/api"
	"sourdine/inst"
)

// world: what an instruction works on, and what it lets out. Memory is made up: what is loaded is a mix of the address.
type world struct {
	r     [16]uint32
	flags int
	out   []uint32
}

func mix(a uint32) uint32 { return bits.RotateLeft32(a*2654435761, 13) ^ a*97 }

// holds: a condition, of flags.
func holds(c, f int) bool {
	n, z, cy, v := f&api.N != 0, f&api.Z != 0, f&api.C != 0, f&api.V != 0
	yes := []bool{z, cy, n, v, cy && !z, n == v, n == v && !z, true}[c>>1]
	return yes != (c&1 != 0)
}

// move: v shifted by n, and the carry.
func move(v uint32, sh int, n uint32, carry bool) (uint32, bool) {
	if sh == api.ShRrx {
		top := uint32(0)
		if carry {
			top = 1 << 31
		}
		return v>>1 | top, v&1 != 0
	}
	for ; n > 0; n-- {
		switch sh {
		case api.ShLsl:
			carry, v = v>>31 != 0, v<<1
		case api.ShLsr:
			carry, v = v&1 != 0, v>>1
		case api.ShAsr:
			carry, v = v&1 != 0, uint32(int32(v)>>1)
		case api.ShRor:
			carry, v = v&1 != 0, bits.RotateLeft32(v, -1)
		}
	}
	return v, carry
}

// base: of a place.
func base(place uint32) uint32 { return (place + 4) &^ 3 }

const place = 0x1002

// do: what the document's words say that i does (P7.2), from w on.
func do(i api.Instr, w world) world {
	w.r[15] = place + inst.Size(i)
	if !holds(i.Cond, w.flags) {
		return w
	}
	switch inst.Class(i.Op) {
	case inst.ClassData:
		return data(i, w)
	case inst.ClassLong:
		return long(i, w)
	case inst.ClassUnary:
		w.r[i.D] = unary(i, w)
	case inst.ClassMemory:
		return memory(i, w)
	case inst.ClassMany:
		return many(i, w)
	case inst.ClassBranch:
		return branch(i, w)
	case inst.ClassOther:
		if i.Op == api.Svc {
			w.r[0] = mix(w.r[0])
		}
	}
	return w
}

func data(i api.Instr, w world) world {
	cy := w.flags&api.C != 0
	one := uint32(0)
	if cy {
		one = 1
	}
	n, m := w.r[i.N], i.Imm
	out := cy
	if i.UseImm {
		if i.A == 1 {
			out = i.Imm>>31 != 0
		}
	} else if i.Sh != api.ShNone {
		m, out = move(w.r[i.M], i.Sh, uint32(i.Amt), cy)
	} else {
		m = w.r[i.M]
	}
	var v uint32
	a, b, c, sum := n, m, uint32(0), false
	switch i.Op {
	case api.Adr:
		v = base(place) + i.Imm
	case api.And, api.Tst:
		v = n & m
	case api.Eor, api.Teq:
		v = n ^ m
	case api.Orr:
		v = n | m
	case api.Mov:
		v = m
	case api.Bic:
		v = n &^ m
	case api.Mvn:
		v = ^m
	case api.Orn:
		v = n | ^m
	case api.Add, api.Cmn:
		sum = true
	case api.Adc:
		c, sum = one, true
	case api.Sub, api.Cmp:
		b, c, sum = ^m, 1, true
	case api.Sbc:
		b, c, sum = ^m, one, true
	case api.Rsb:
		a, b, c, sum = ^n, m, 1, true
	default:
		v, out = move(n, i.Op-api.Lsl+api.ShLsl, m&0xff, cy)
	}
	over := w.flags&api.V != 0
	if sum {
		v = a + b + c
		out = uint64(a)+uint64(b)+uint64(c) > 1<<32-1
		over = int64(int32(a))+int64(int32(b))+int64(c) != int64(int32(v))
	}
	if i.Op < api.Tst || i.Op > api.Cmn {
		w.r[i.D] = v
	}
	if i.S {
		w.flags = flags(v, out, over)
	}
	return w
}

func flags(v uint32, carry, over bool) int {
	f := 0
	for _, x := range []struct {
		is  bool
		bit int
	}{{v>>31 != 0, api.N}, {v == 0, api.Z}, {carry, api.C}, {over, api.V}} {
		if x.is {
			f |= x.bit
		}
	}
	return f
}

func long(i api.Instr, w world) world {
	n, m, a, d := w.r[i.N], w.r[i.M], w.r[i.A], w.r[i.D]
	var v uint64
	switch i.Op {
	case api.Mul:
		w.r[i.D] = n * m
		if i.S {
			w.flags = flags(n*m, w.flags&api.C != 0, w.flags&api.V != 0)
		}
		return w
	case api.Mla:
		w.r[i.D] = a + n*m
		return w
	case api.Mls:
		w.r[i.D] = a - n*m
		return w
	case api.Udiv, api.Sdiv:
		w.r[i.D] = quotient(i.Op, n, m)
		return w
	case api.Umull, api.Umlal:
		v = uint64(n) * uint64(m)
	case api.Smull, api.Smlal:
		v = uint64(int64(int32(n)) * int64(int32(m)))
	}
	if i.Op == api.Umlal || i.Op == api.Smlal {
		v += uint64(a)<<32 | uint64(d)
	}
	w.r[i.D], w.r[i.A] = uint32(v), uint32(v>>32)
	return w
}

func quotient(o int, n, m uint32) uint32 {
	switch {
	case m == 0:
		return 0
	case o == api.Udiv:
		return n / m
	}
	return uint32(int64(int32(n)) / int64(int32(m)))
}

func unary(i api.Instr, w world) uint32 {
	d, n, m := w.r[i.D], w.r[i.N], w.r[i.M]
	from, many := i.Imm%32, i.Imm/32
	mask := uint32(1)<<many - 1
	if i.N == 15 {
		n = 0
	}
	switch i.Op {
	case api.Movt:
		return d&0xffff | i.Imm<<16
	case api.Ubfx:
		return n >> from & mask
	case api.Sbfx:
		return uint32(int32(n<<(32-from-many)) >> (32 - many))
	case api.Bfi:
		return d&^(mask<<from) | n&mask<<from
	case api.Clz:
		return uint32(bits.LeadingZeros32(m))
	case api.Rbit:
		return bits.Reverse32(m)
	case api.Rev:
		return bits.ReverseBytes32(m)
	case api.Rev16:
		return bits.RotateLeft32(bits.ReverseBytes32(m), 16)
	case api.Revsh:
		return uint32(int32(int16(bits.ReverseBytes16(uint16(m)))))
	case api.Sxtb:
		return uint32(int32(int8(m)))
	case api.Sxth:
		return uint32(int32(int16(m)))
	case api.Uxtb:
		return m & 0xff
	}
	return m & 0xffff
}

func memory(i api.Instr, w world) world {
	a := w.r[i.N]
	if i.N == 15 {
		a = base(place)
	}
	if i.UseImm {
		a += i.Imm
	} else {
		a += w.r[i.M] << i.Amt
	}
	if i.Op >= api.Str {
		w.out = append(w.out, a, w.r[i.D]&(1<<[]int{32, 8, 16}[i.Op-api.Str]-1))
		return w
	}
	w.r[i.D] = mix(a)
	return w
}

func many(i api.Instr, w world) world {
	a := w.r[i.N]
	all := uint32(bits.OnesCount(uint(i.List)) * 4)
	back := a + all
	if i.Down {
		a -= all
		back = a
	}
	before := w.r
	if i.Back {
		w.r[i.N] = back
	}
	for r := range 16 {
		if i.List>>r&1 == 0 {
			continue
		}
		if i.Op == api.Ldm {
			w.r[r] = mix(a)
		} else {
			w.out = append(w.out, a, before[r])
		}
		a += 4
	}
	return w
}

func branch(i api.Instr, w world) world {
	to := uint32(place + 4 + i.Imm)
	next := w.r[15]
	switch i.Op {
	case api.Bx, api.Blx:
		to = w.r[i.M]
	case api.Cbz, api.Cbnz:
		if (w.r[i.N] == 0) != (i.Op == api.Cbz) {
			to = next
		}
	}
	if i.Op == api.Bl || i.Op == api.Blx {
		w.r[14] = next | 1
	}
	w.r[15] = to
	return w
}

// number: of any length in bits, and often one at which flags change.
func number(rnd *rand.Rand) uint32 {
	edges := []uint32{0, 1, 2, 1<<31 - 1, 1 << 31, 1<<32 - 2, 1<<32 - 1}
	if k := rnd.Intn(2 * len(edges)); k < len(edges) {
		return edges[k]
	}
	return rnd.Uint32() >> rnd.Intn(33)
}

// vary: what a shape leaves open, at random, as the layers above may tell it.
func vary(w what, i api.Instr, rnd *rand.Rand) api.Instr {
	switch {
	case w.name == "ubfx" || w.name == "sbfx" || w.name == "bfi":
		from := rnd.Intn(32)
		i.Imm = uint32(from + 32*(1+rnd.Intn(32-from)))
	case w.flags == "nzc":
		if i.UseImm {
			i.Imm = uint32(1 + rnd.Intn(32))
		}
	case w.name == "movt":
		i.Imm = uint32(rnd.Intn(1 << 16))
	case w.class == inst.ClassBranch:
		i.Imm = uint32(2 * rnd.Intn(1<<10))
	default:
		i.Imm = number(rnd)
	}
	if i.Sh != api.ShNone {
		i.Amt = 1 + rnd.Intn(31)
	}
	return i
}

// seen: what came of an instruction, where it has a say.
type seen struct {
	r     map[int]uint32
	flags int
	out   []uint32
}

func see(w world, writes []int, sets int) seen {
	s := seen{r: map[int]uint32{}, flags: w.flags & sets, out: w.out}
	for _, r := range writes {
		s.r[r] = w.r[r]
	}
	return s
}

func (s seen) same(o seen) bool {
	for r, v := range s.r {
		if o.r[r] != v {
			return false
		}
	}
	return s.flags == o.flags && slices.Equal(s.out, o.out)
}

// trial: what of one shape showed, over many numbers.
type trial struct {
	mattered, changed map[int]int
	flagsMattered     int
	flagsChanged      int
}

// once: does i from numbers at random, and from others that differ in one register, or in the flags.
func (tr *trial) once(t *testing.T, name string, i api.Instr, rnd *rand.Rand) {
	t.Helper()
	w := world{flags: rnd.Intn(16)}
	for r := range w.r {
		w.r[r] = number(rnd)
	}
	reads, writes, sets := inst.Reads(i), inst.Writes(i), inst.Sets(i)
	if !slices.Contains(writes, 15) {
		writes = append(writes, 15)
	}
	after := do(i, w)
	for r := range 15 {
		if after.r[r] != w.r[r] {
			tr.changed[r]++
		}
		other := w
		other.r[r] = number(rnd)
		if see(after, writes, sets).same(see(do(i, other), writes, sets)) {
			continue
		}
		tr.mattered[r]++
		if !slices.Contains(reads, r) {
			t.Fatalf("P7.4: %s %+v takes %d, and doesn't tell so", name, i, r)
		}
	}
	if after.r[15] != place+inst.Size(i) {
		tr.changed[15]++
	}
	tr.flagsChanged |= after.flags ^ w.flags
	other := w
	other.flags = rnd.Intn(16)
	got := do(i, other)
	kept := func(before, after world) int { return (before.flags ^ after.flags) &^ sets }
	if kept(w, after) != 0 || kept(other, got) != 0 {
		t.Fatalf("P7.4: %s %+v sets flags, and doesn't tell so", name, i)
	}
	if !see(after, writes, sets).same(see(got, writes, sets)) {
		tr.flagsMattered++
	}
}

func TestWhatItDoes(t *testing.T) {
	rnd := rand.New(rand.NewSource(74))
	for _, w := range all {
		for _, shape := range shapes(w) {
			if shape.Cond != api.Always && w.name == "b" {
				shape.Wide = true
			}
			i := fill(w, shape, func(c rune) int { return map[rune]int{'D': 9, 'N': 2, 'M': 12, 'A': 4}[c] })
			if w.class == inst.ClassMany {
				i.List = 0x0c1 << 3
				if w.name == "ldm" && shape.Down {
					i.List |= 1 << 15
				}
			}
			tr := trial{mattered: map[int]int{}, changed: map[int]int{}}
			for k := 0; k < 40 || k < 4000 && tr.amiss(i) != ""; k++ {
				tr.once(t, w.name, vary(w, i, rnd), rnd)
			}
			if s := tr.amiss(i); s != "" {
				t.Fatalf("P7.4: %s %+v: %s", w.name, i, s)
			}
		}
	}
}

// keys: those that were counted, rising.
func keys(m map[int]int) []int {
	set := 0
	for k := range m {
		set |= 1 << k
	}
	return list(set)
}

// amiss: where what showed isn't what is told; what is told and never shows is too much. (What does nothing shows no condition; some conditions leave nothing of a flag to change.)
func (tr *trial) amiss(i api.Instr) string {
	uses := tr.flagsMattered > 0
	switch {
	case !slices.Equal(inst.Reads(i), keys(tr.mattered)):
		return fmt.Sprint("Reads ", inst.Reads(i), ", but it takes ", keys(tr.mattered))
	case !slices.Equal(inst.Writes(i), keys(tr.changed)):
		return fmt.Sprint("Writes ", inst.Writes(i), ", but it changes ", keys(tr.changed))
	case inst.Sets(i) != tr.flagsChanged && i.Cond == api.Always:
		return fmt.Sprint("Sets ", inst.Sets(i), ", but it changes ", tr.flagsChanged)
	case inst.Uses(i) != uses && (uses || i.Cond == api.Always):
		return fmt.Sprint("Uses ", inst.Uses(i), ", but flags matter: ", uses)
	}
	return ""
}
