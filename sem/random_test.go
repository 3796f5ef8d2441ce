package sem_test

import (
	"bytes"
	"math/rand"
	"slices"
	"testing"

	"sourdine/api"
	"sourdine/inst"
	"sourdine/mem"
	"sourdine/sem"
	"sourdine/thumb"
	"sourdine/wide"
)

// land: regions of all kinds, some of which touch, one from 0 on and one up to the last address that may be.
func land(r *rand.Rand) []api.Region {
	l := []api.Region{
		{From: 0, Len: 16, Read: true, Write: true},
		{From: 0x100, Len: 64, Read: true, Write: true},
		{From: 0x140, Len: 64, Read: true, Write: true, Exec: true},
		{From: 0x180, Len: 16, Read: true},
		{From: 0x190, Len: 16, Write: true, Exec: true},
		{From: 0x1a0, Len: 16, Write: true, Secret: true},
		{From: 0x1b0, Len: 16, Exec: true},
		{From: 0xffffe000, Len: 4096, Read: true, Write: true},
	}
	for k := range l[:7] {
		l[k].Bytes = make([]byte, r.Intn(int(l[k].Len)+1))
		r.Read(l[k].Bytes)
	}
	// What an Ldm with 15 goes to.
	copy(l[1].Bytes, []byte{0xf9, 0xff, 0xff, 0xff, 0x11, 1, 0, 0, 0x10, 1, 0, 0, 0xfb, 0xff, 0xff, 0xff})
	return l
}

// number: a register, an immediate, often at an edge.
func number(r *rand.Rand) uint32 {
	edges := []uint32{0, 1, 2, 3, 31, 32, 33, 64, 255, 256, 257, 0x7fffffff, 0x80000000, 0x80000001, 0xfffffff8, 0xfffffff9, 0xffffffff}
	switch r.Intn(4) {
	case 0:
		return edges[r.Intn(len(edges))]
	case 1:
		return uint32(r.Intn(300))
	}
	return r.Uint32()
}

// address: one in or near land's regions, mostly a multiple of 4.
func address(r *rand.Rand) uint32 {
	edges := []uint32{0, 0x100, 0x110, 0x140, 0x180, 0x190, 0x1a0, 0x1b0, 0x1c0, 0xffffe000, 0xfffff000}
	a := edges[r.Intn(len(edges))] + 4*uint32(r.Intn(20)) - 16
	if r.Intn(3) == 0 {
		a += uint32(r.Intn(4))
	}
	return a
}

// some: a state, and a place, at random.
func some(r *rand.Rand) (api.State, uint32) {
	s := api.State{Flags: r.Intn(16), Handler: r.Intn(2) == 0}
	for k := range s.R {
		s.R[k] = number(r)
	}
	place := uint32(0x10c + 2*r.Intn(60))
	if r.Intn(20) == 0 {
		place = 0xfffffff0 + uint32(r.Intn(16))
	}
	return s, place
}

// aim: s, in which an i that loads or stores meets a region, or just doesn't.
func aim(r *rand.Rand, s api.State, i api.Instr) api.State {
	if !inst.Loads(i) && !inst.Stores(i) || i.N == 15 {
		return s
	}
	a := address(r)
	switch {
	case inst.Class(i.Op) == inst.ClassMany:
		for k := range 16 {
			if i.Down {
				a += 4 * uint32(i.List>>k%2)
			}
		}
	case i.UseImm:
		a -= i.Imm
	case i.M != i.N:
		s.R[i.M] = uint32(r.Intn(5))
		a -= s.R[i.M] << i.Amt
	}
	s.R[i.N] = a
	return s
}

// held: holds Step of i against the model, in memory of l.
func held(t *testing.T, l []api.Region, s api.State, place uint32, i api.Instr) api.Errno {
	t.Helper()
	m, err := mem.New(l)
	if err != api.OK {
		t.Fatalf("New: %d", err)
	}
	o := newModel(s, l)
	want, obs, e := o.step(s, place, i)
	got, seen, err := sem.Step(s, m, place, i)
	if got != want || err != e {
		t.Fatalf("P13.1: Step of %+v at %#x\nfrom %+v:\n     %+v, %d,\nnot  %+v, %d", i, place, s, got, err, want, e)
	}
	if !slices.Equal(seen, obs) {
		t.Fatalf("P13.1: Step of %+v at %#x\nfrom %+v: it lets see %v, not %v", i, place, s, seen, obs)
	}
	for k, p := range o.parts {
		if inst.Stores(i) && !bytes.Equal(m.Bytes(k), p.now) {
			t.Fatalf("P13.1: Step of %+v at %#x\nfrom %+v: in region %d is % x, not % x", i, place, s, k, m.Bytes(k), p.now)
		}
	}
	return e
}

// tally: how often each instruction came, with and without an error.
type tally map[int]map[api.Errno]int

// count: one more.
func (n tally) count(o int, err api.Errno) {
	if n[o] == nil {
		n[o] = map[api.Errno]int{}
	}
	n[o][err]++
}

// enough: whether each of these instructions came so often with each of these errors.
func (n tally) enough(t *testing.T, ops []int, least int, errs ...api.Errno) {
	t.Helper()
	for _, o := range ops {
		for _, e := range errs {
			if n[o][e] < least {
				t.Errorf("%s with error %d came %d times only", inst.Name(o), e, n[o][e])
			}
		}
	}
}

// between: all kinds from one to another.
func between(first, last int) []int {
	var l []int
	for o := first; o <= last; o++ {
		l = append(l, o)
	}
	return l
}

// wider: what loads or stores more than a byte.
var wider = []int{api.Ldr, api.Ldrh, api.Ldrsh, api.Str, api.Strh, api.Ldm, api.Stm}

// within: i as it stands in an IT, with any condition.
func within(r *rand.Rand, i api.Instr) api.Instr {
	if i.Op != api.Undefined && i.Op != api.Unpredictable {
		i.Cond = r.Intn(15)
	}
	return i
}

// TestNarrow: P13.1 to P13.3, of all narrow instructions, outside of an IT and within one.
func TestNarrow(t *testing.T) {
	r := rand.New(rand.NewSource(13))
	n := tally{}
	for h := range 1 << 16 {
		if thumb.Wide(uint16(h)) {
			continue
		}
		l := land(r)
		for k := range 3 {
			i := thumb.Decode(uint16(h), k == 2)
			if k == 2 {
				i = within(r, i)
			}
			s, place := some(r)
			n.count(i.Op, held(t, l, aim(r, s, i), place, i))
		}
	}
	n.enough(t, between(api.Ldr, api.Stm), 20, api.OK, api.ErrAccess)
	n.enough(t, wider, 20, api.ErrAlign)
	n.enough(t, []int{api.Ldm, api.Bx, api.Blx}, 20, api.OK, api.ErrState)
	n.enough(t, []int{api.B, api.Cbz, api.Cbnz, api.Svc, api.It, api.Nop, api.Adr}, 20, api.OK)
}

// often: how many second halves are tried behind h: more of those rows that have few first ones.
func often(h int) int {
	switch h >> 8 {
	case 0xe8, 0xe9, 0xfa, 0xfb:
		return 200
	}
	return 24
}

// wideCode: h and a half behind it, often one that has what some rows ask for.
func wideCode(r *rand.Rand, h int) (uint16, uint16) {
	k := r.Intn(1 << 16)
	switch r.Intn(5) {
	case 0:
		k |= 0xf000
		k &^= 0xf0
	case 1:
		k |= 0xf0f0
	case 2:
		k = k&0xf0f | 0xf080 | r.Intn(4)<<4
	case 3:
		k &^= 0xfc0
	}
	return uint16(h), uint16(k)
}

// TestWide: P13.1 to P13.3, of wide instructions, outside of an IT and within one.
func TestWide(t *testing.T) {
	r := rand.New(rand.NewSource(131))
	n := tally{}
	for h := 0xe800; h < 1<<16; h++ {
		l := land(r)
		for k := range often(h) {
			first, next := wideCode(r, h)
			i := wide.Decode(first, next, k%3 == 2)
			if i.Op == api.Undefined && k%8 != 0 {
				continue
			}
			if k%3 == 2 {
				i = within(r, i)
			}
			s, place := some(r)
			n.count(i.Op, held(t, l, aim(r, s, i), place, i))
		}
	}
	n.enough(t, between(api.And, api.Uxth), 2, api.OK)
	n.enough(t, between(api.Ldr, api.Stm), 20, api.OK, api.ErrAccess)
	n.enough(t, wider, 20, api.ErrAlign)
	n.enough(t, []int{api.Ldm}, 20, api.ErrState)
	n.enough(t, []int{api.Undefined}, 20, api.ErrUndefined)
	n.enough(t, []int{api.Unpredictable}, 20, api.ErrUnpredictable)
}

// TestReckoned: P13.2, each of Data, Long, Unary many times, with its registers where they may be the same ones.
func TestReckoned(t *testing.T) {
	r := rand.New(rand.NewSource(132))
	l := land(r)
	for _, o := range between(api.And, api.Uxth) {
		for range 4000 {
			i := api.Instr{Op: o, Wide: true, Cond: api.Always, D: r.Intn(8), N: r.Intn(8), M: r.Intn(8)}
			s, place := some(r)
			held(t, l, s, place, shape(r, i))
		}
	}
}

// shape: i, of Data, Long or Unary, with the rest of what it has.
func shape(r *rand.Rand, i api.Instr) api.Instr {
	i.S = r.Intn(2) == 0
	switch {
	case inst.Class(i.Op) == inst.ClassLong:
		i.S = i.S && i.Op == api.Mul
		i.A = (i.D + 1 + r.Intn(7)) % 8
	case inst.Class(i.Op) == inst.ClassUnary:
		i.S = false
		i.Imm = uint32(r.Intn(1 << 16))
		if i.Op >= api.Ubfx && i.Op <= api.Bfi {
			from := r.Intn(32)
			i.Imm = uint32(from + 32*(1+r.Intn(32-from)))
		}
		if i.Op == api.Bfi && r.Intn(4) == 0 {
			i.N = 15
		}
	case i.Op >= api.Lsl:
		if r.Intn(2) == 0 {
			i.M, i.UseImm, i.Imm = 0, true, uint32(1+r.Intn(32))
		}
	case r.Intn(2) == 0:
		i.M, i.UseImm, i.Imm, i.A = 0, true, number(r), r.Intn(2)
	default:
		i.Sh = r.Intn(6)
		i.Amt = []int{0, 1 + r.Intn(31), 1 + r.Intn(32), 1 + r.Intn(32), 1 + r.Intn(31), 1}[i.Sh]
	}
	if i.Op >= api.Tst && i.Op <= api.Cmn {
		i.D, i.S = 0, true
	}
	return i
}

// TestSecondAny: P13.2, the call by itself.
func TestSecondAny(t *testing.T) {
	r := rand.New(rand.NewSource(133))
	for range 100000 {
		s, _ := some(r)
		i := shape(r, api.Instr{Op: api.And + r.Intn(16), Cond: api.Always, N: r.Intn(15), M: r.Intn(15)})
		v, c := newModel(s, nil).second(i, 0)
		if got, carry := sem.Second(s, i); got != v || carry != c {
			t.Fatalf("P13.2: Second(%+v, %+v): %#x, %v, not %#x, %v", s, i, got, carry, v, c)
		}
	}
}

// TestAddressAny: P13.3, the call by itself, of all kinds.
func TestAddressAny(t *testing.T) {
	r := rand.New(rand.NewSource(134))
	for range 100000 {
		s, place := some(r)
		i := api.Instr{Op: 1 + r.Intn(api.Ops-1), Cond: api.Always, D: r.Intn(16), N: r.Intn(16), M: r.Intn(15)}
		i.UseImm, i.Down, i.Back = r.Intn(2) == 0, r.Intn(2) == 0, r.Intn(2) == 0
		i.Imm, i.Amt, i.List = number(r), r.Intn(4), r.Intn(1<<16)
		if i.Op == api.Ldm || i.Op == api.Stm {
			i.N %= 15
		}
		want := newModel(s, nil).first(i, place)
		if got := sem.Address(s, place, i); got != want {
			t.Fatalf("P13.3: Address(%+v, %#x, %+v): %#x, not %#x", s, place, i, got, want)
		}
	}
}
