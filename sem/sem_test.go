package sem_test

import (
	"math"
	"slices"
	"testing"

	"sourdine/api"
	"sourdine/cond"
	"sourdine/inst"
	"sourdine/mem"
	"sourdine/sem"
)

const (
	al = api.Always
	pc = 0x100 // where the instructions of these tests stand
)

// regs: a state with these registers from 0 on, and flags.
func regs(flags int, l ...uint32) api.State {
	s := api.State{Flags: flags}
	copy(s.R[:], l)
	s.R[13], s.R[14], s.R[15] = 0xd0, 0xe0, 0xf0
	return s
}

// with: s, in which a register is another one.
func with(s api.State, r int, v uint32) api.State {
	s.R[r] = v
	return s
}

// flagged: s with other flags.
func flagged(s api.State, flags int) api.State {
	s.Flags = flags
	return s
}

// on: s, gone on to a place.
func on(s api.State, place uint32) api.State { return with(s, 15, place) }

// made: memory of l, which must be a right list.
func made(t *testing.T, l ...api.Region) *mem.Mem {
	t.Helper()
	m, err := mem.New(l)
	if err != api.OK {
		t.Fatalf("New(%+v): %d", l, err)
	}
	return m
}

// field: of each test here, 0x40 bytes for data, then as many for code, then some that may be read alone.
func field(t *testing.T) *mem.Mem {
	t.Helper()
	return made(t,
		api.Region{From: 0x200, Len: 0x40, Read: true, Write: true, Bytes: []byte{1, 2, 3, 4, 0x85, 0x86, 0x87, 0x88, 0x11, 0, 0, 0, 0x10, 0, 0, 0, 0xf9, 0xff, 0xff, 0xff}},
		api.Region{From: 0x240, Len: 0x40, Read: true, Write: true, Exec: true},
		api.Region{From: 0x280, Len: 8, Read: true, Exec: true, Bytes: []byte{9}},
	)
}

// pcOnly: what is seen of an instruction that neither loads nor stores.
func pcOnly() []api.Obs { return []api.Obs{{Kind: api.ObsPC, A: pc}} }

// seen: what is seen behind the place: kinds and numbers in turn.
func seen(l ...uint32) []api.Obs {
	all := pcOnly()
	for k := 0; k < len(l); k += 2 {
		all = append(all, api.Obs{Kind: int(l[k]), A: l[k+1]})
	}
	return all
}

// is: holds one Step at pc against what it should tell.
func is(t *testing.T, promise string, m *mem.Mem, s api.State, i api.Instr, want api.State, obs []api.Obs, e api.Errno) {
	t.Helper()
	got, told, err := sem.Step(s, m, pc, i)
	if got != want || err != e || !slices.Equal(told, obs) {
		t.Errorf("%s: Step of %+v\nfrom %+v:\n     %+v, %v, %d,\nnot  %+v, %v, %d", promise, i, s, got, told, err, want, obs, e)
	}
}

// each: an instruction of each class that does something to 0 to 3 of state(flags), to memory or to the place.
func each() []api.Instr {
	return []api.Instr{
		{Op: api.Mov, D: 0, Imm: 77, UseImm: true},
		{Op: api.Sub, D: 0, N: 1, M: 2, S: true, Wide: true},
		{Op: api.Cmp, N: 1, M: 2, S: true},
		{Op: api.Umull, D: 0, A: 3, N: 1, M: 2, Wide: true},
		{Op: api.Movt, D: 0, Imm: 77, Wide: true},
		{Op: api.Ldr, D: 0, N: 1, UseImm: true},
		{Op: api.Str, D: 0, N: 1, UseImm: true},
		{Op: api.Ldm, N: 1, List: 0x8001, Back: true, Wide: true},
		{Op: api.Stm, N: 1, List: 5, Back: true},
		{Op: api.Bl, Imm: 8, Wide: true},
		{Op: api.B, Imm: 8, Wide: true},
		{Op: api.B, Imm: 8},
		{Op: api.Bx, M: 3},
		{Op: api.Blx, M: 3},
		{Op: api.Bkpt},
	}
}

// TestCond: P13.1: where a condition doesn't hold, nothing but the place; where it does, as if it were Always.
func TestCond(t *testing.T) {
	for _, i := range each() {
		for c := range 15 {
			for flags := range 16 {
				s := regs(flags, 5, 0x204, 3, 0x301)
				m, other := field(t), field(t)
				i.Cond = al
				want, obs, e := sem.Step(s, other, pc, i)
				i.Cond = c
				if !cond.Holds(c, flags) {
					want, obs, e, other = on(s, pc+inst.Size(i)), pcOnly(), api.OK, field(t)
				}
				is(t, "P13.1", m, s, i, want, obs, e)
				if !m.Same(other) {
					t.Errorf("P13.1: Step of %+v of flags %d: it stored something else", i, flags)
				}
			}
		}
	}
}

// TestPlaces: P13.1: the place is let see whatever comes, and is gone on from, in a ring, by the size.
func TestPlaces(t *testing.T) {
	for _, x := range []struct {
		place, next uint32
		wide        bool
	}{{0, 2, false}, {0, 4, true}, {0xfffffffe, 0, false}, {0xfffffffe, 2, true}, {0xfffffffc, 0, true}, {7, 9, false}} {
		s := regs(0)
		got, obs, err := sem.Step(s, nil, x.place, api.Instr{Op: api.Nop, Cond: al, Wide: x.wide})
		if got != on(s, x.next) || err != api.OK || !slices.Equal(obs, []api.Obs{{Kind: api.ObsPC, A: x.place}}) {
			t.Errorf("P13.1: Step of a Nop at %#x: %+v, %v, %d", x.place, got, obs, err)
		}
	}
	for _, x := range [][2]uint32{{0, 4}, {2, 4}, {4, 8}, {6, 8}, {0xfffffffe, 0}, {0xfffffffc, 0}, {0xfffffff8, 0xfffffffc}, {3, 4}, {1, 4}, {5, 8}} {
		i := api.Instr{Op: api.Ldr, Cond: al, N: 15, Imm: 0x10, UseImm: true}
		if got := sem.Address(regs(0), x[0], i); got != x[1]+0x10 {
			t.Errorf("P13.1: Address at %#x: %#x, not %#x on the base %#x", x[0], got, x[1]+0x10, x[1])
		}
		i.Op = api.Adr
		if got, _, _ := sem.Step(regs(0), nil, x[0], i); got.R[0] != x[1]+0x10 {
			t.Errorf("P7.2: Adr at %#x: %#x, not %#x on the base %#x", x[0], got.R[0], x[1]+0x10, x[1])
		}
	}
}

// TestErrors: P13.1: the errors, of which all stays as it was.
func TestErrors(t *testing.T) {
	for _, x := range []struct {
		o int
		e api.Errno
	}{
		{api.Undefined, 27}, {0, 27}, {-1, 27}, {api.Ops, 27}, {api.Ops + 1, 27}, {math.MaxInt, 27}, {math.MinInt, 27},
		{api.Unpredictable, 28}, {api.Bkpt, 29},
	} {
		for _, big := range []bool{false, true} {
			s := regs(5, 1, 2, 3)
			s.Handler = true
			is(t, "P13.1", field(t), s, api.Instr{Op: x.o, Cond: al, Wide: big, Imm: 0xdeff}, s, pcOnly(), x.e)
		}
	}
}

// TestNothing: P13.1: those that do nothing but go on.
func TestNothing(t *testing.T) {
	for _, i := range []api.Instr{
		{Op: api.Nop}, {Op: api.Nop, Imm: 3}, {Op: api.It, Imm: 0x18}, {Op: api.It, Imm: 8},
		{Op: api.Svc}, {Op: api.Svc, Imm: 1}, {Op: api.Svc, Imm: 2}, {Op: api.Svc, Imm: 255},
	} {
		i.Cond = al
		for _, handler := range []bool{false, true} {
			s := regs(9, 1, 2, 3, 4)
			s.Handler = handler
			is(t, "P13.1", nil, s, i, on(s, pc+2), pcOnly(), api.OK)
		}
	}
}

// TestLoads: P13.1, P13.3: loads, their widths, their Obs and errors.
func TestLoads(t *testing.T) {
	for _, x := range []struct {
		o    int
		a, v uint32
		e    api.Errno
	}{
		{api.Ldr, 0x200, 0x04030201, 0}, {api.Ldr, 0x204, 0x88878685, 0}, {api.Ldr, 0x280, 9, 0}, {api.Ldr, 0x27c, 0, 0},
		{api.Ldrh, 0x200, 0x201, 0}, {api.Ldrh, 0x206, 0x8887, 0}, {api.Ldrb, 0x203, 4, 0}, {api.Ldrb, 0x205, 0x86, 0},
		{api.Ldrsh, 0x200, 0x201, 0}, {api.Ldrsh, 0x206, 0xffff8887, 0}, {api.Ldrsb, 0x203, 4, 0}, {api.Ldrsb, 0x205, 0xffffff86, 0},
		{api.Ldr, 0x201, 0, api.ErrAlign}, {api.Ldr, 0x202, 0, api.ErrAlign}, {api.Ldrh, 0x201, 0, api.ErrAlign}, {api.Ldrsh, 0x203, 0, api.ErrAlign},
		{api.Ldr, 0x1fc, 0, api.ErrAccess}, {api.Ldr, 0x288, 0, api.ErrAccess}, {api.Ldrb, 0x1ff, 0, api.ErrAccess}, {api.Ldrsb, 0x288, 0, api.ErrAccess}, {api.Ldrh, 0xfffffffe, 0, api.ErrAccess}, {api.Ldr, 0xfffffffd, 0, api.ErrAlign},
	} {
		s := regs(3, 7, x.a-0x20)
		want := on(with(s, 0, x.v), pc+2)
		if x.e != 0 {
			want = s
		}
		m := field(t)
		is(t, "P13.3", m, s, api.Instr{Op: x.o, Cond: al, N: 1, Imm: 0x20, UseImm: true}, want, seen(api.ObsLoad, x.a), x.e)
		if !m.Same(field(t)) {
			t.Errorf("P13.3: a load changed memory")
		}
	}
	s := regs(0, 0, 0x204)
	is(t, "P13.4", field(t), s, api.Instr{Op: api.Ldr, Cond: al, D: 1, N: 1, UseImm: true, Wide: true}, on(with(s, 1, 0x88878685), pc+4), seen(api.ObsLoad, 0x204), 0)
	is(t, "P13.3", nil, s, api.Instr{Op: api.Ldr, Cond: al, N: 1, UseImm: true}, s, seen(api.ObsLoad, 0x204), api.ErrAccess)
	is(t, "P13.1", made(t, api.Region{From: 0x104, Len: 8, Read: true, Bytes: []byte{1, 2, 3, 4, 5, 6, 7, 8}}), s, api.Instr{Op: api.Ldr, Cond: al, N: 15, Imm: 4, UseImm: true}, on(with(s, 0, 0x08070605), pc+2), seen(api.ObsLoad, 0x108), 0)
}

// TestStores: P13.1, P13.3: stores, their widths, their Obs and errors, and code that is stored.
func TestStores(t *testing.T) {
	for _, x := range []struct {
		o    int
		a    uint32
		code uint32
		e    api.Errno
	}{
		{api.Str, 0x200, 0, 0}, {api.Str, 0x23c, 0, 0}, {api.Strh, 0x23e, 0, 0}, {api.Strb, 0x23f, 0, 0},
		{api.Str, 0x240, 0xa1a2a3a4, 0}, {api.Str, 0x27c, 0xa1a2a3a4, 0}, {api.Strh, 0x240, 0xa3a4, 0}, {api.Strh, 0x27e, 0xa3a4, 0}, {api.Strb, 0x240, 0xa4, 0}, {api.Strb, 0x241, 0xa4, 0}, {api.Strb, 0x27f, 0xa4, 0},
		{api.Str, 0x242, 0, api.ErrAlign}, {api.Strh, 0x241, 0, api.ErrAlign}, {api.Strh, 0x281, 0, api.ErrAlign},
		{api.Str, 0x280, 0, api.ErrAccess}, {api.Strb, 0x280, 0, api.ErrAccess}, {api.Strh, 0x286, 0, api.ErrAccess}, {api.Str, 0, 0, api.ErrAccess},
	} {
		s := regs(3, 0xa1a2a3a4, x.a+8)
		want, obs := on(s, pc+2), seen(api.ObsStore, x.a)
		if x.e != 0 {
			want = s
		}
		if x.code != 0 {
			obs = seen(api.ObsStore, x.a, api.ObsCode, x.code)
		}
		m := field(t)
		is(t, "P13.3", m, s, api.Instr{Op: x.o, Cond: al, N: 1, Imm: 0xfffffff8, UseImm: true}, want, obs, x.e)
		if x.e != 0 && !m.Same(field(t)) {
			t.Errorf("P13.1: a store of an error changed memory")
		}
	}
	is(t, "P13.1", nil, regs(0), api.Instr{Op: api.Str, Cond: al, UseImm: true}, regs(0), seen(api.ObsStore, 0), api.ErrAccess)
}

// TestStored: P13.1, P4.1: what a store leaves in memory, and beside it.
func TestStored(t *testing.T) {
	for o, want := range map[int]uint32{api.Str: 0xa1a2a3a4, api.Strh: 0x8887a3a4, api.Strb: 0x888786a4} {
		m := field(t)
		sem.Step(regs(0, 0xa1a2a3a4, 0x200, 1), m, pc, api.Instr{Op: o, Cond: al, N: 1, M: 2, Amt: 2})
		v, _ := m.Load(0x204, 4)
		before, _ := m.Load(0x200, 4)
		behind, _ := m.Load(0x208, 4)
		if v != want || before != 0x04030201 || behind != 0x11 {
			t.Errorf("P13.3: %s left %#x, %#x, %#x", inst.Name(o), before, v, behind)
		}
	}
}

// TestLdm: P13.3: registers from memory.
func TestLdm(t *testing.T) {
	s := regs(1, 7, 0x200, 0x214, 3)
	for _, x := range []struct {
		i    api.Instr
		want api.State
		obs  []api.Obs
		e    api.Errno
	}{
		{api.Instr{N: 1, List: 9, Back: true}, on(with(with(with(s, 0, 0x04030201), 3, 0x88878685), 1, 0x208), pc+2), seen(2, 0x200, 2, 0x204), 0},
		{api.Instr{N: 1, List: 9}, on(with(with(s, 0, 0x04030201), 3, 0x88878685), pc+2), seen(2, 0x200, 2, 0x204), 0},
		{api.Instr{N: 1, List: 3}, on(with(with(s, 0, 0x04030201), 1, 0x88878685), pc+2), seen(2, 0x200, 2, 0x204), 0},
		{api.Instr{N: 2, List: 3, Down: true, Wide: true}, on(with(with(s, 0, 0x10), 1, 0xfffffff9), pc+4), seen(2, 0x20c, 2, 0x210), 0},
		{api.Instr{N: 2, List: 3, Down: true, Back: true, Wide: true}, on(with(with(with(s, 0, 0x10), 1, 0xfffffff9), 2, 0x20c), pc+4), seen(2, 0x20c, 2, 0x210), 0},
		{api.Instr{N: 2, List: 0x8001, Down: true, Back: true, Wide: true}, on(with(with(s, 0, 0x10), 2, 0x20c), 0xfffffff9), seen(2, 0x20c, 2, 0x210), 0},
		{api.Instr{N: 1, List: 0x800d, Back: true, Wide: true}, s, seen(2, 0x200, 2, 0x204, 2, 0x208, 2, 0x20c), api.ErrState},
		{api.Instr{N: 1, List: 0x8009, Back: true, Wide: true}, on(with(with(with(s, 0, 0x04030201), 3, 0x88878685), 1, 0x20c), 0x10), seen(2, 0x200, 2, 0x204, 2, 0x208), 0},
		{api.Instr{N: 3, List: 3, Back: true}, s, seen(2, 3), api.ErrAlign},
		{api.Instr{N: 0, List: 6, Back: true}, s, seen(2, 7), api.ErrAlign},
	} {
		i := x.i
		i.Op, i.Cond = api.Ldm, al
		is(t, "P13.3", field(t), s, i, x.want, x.obs, x.e)
	}
	short := with(s, 1, 0x284)
	is(t, "P13.1", field(t), short, api.Instr{Op: api.Ldm, Cond: al, N: 1, List: 13, Back: true}, short, seen(2, 0x284, 2, 0x288), api.ErrAccess)
	is(t, "P13.3", field(t), with(s, 13, 0x204), api.Instr{Op: api.Ldm, Cond: al, N: 13, List: 0x8000, Back: true}, on(with(s, 13, 0x208), 0x88878684), seen(2, 0x204), 0)
	low := with(s, 1, 4)
	is(t, "P13.3", field(t), low, api.Instr{Op: api.Ldm, Cond: al, N: 1, List: 13, Back: true, Down: true, Wide: true}, low, seen(2, 0xfffffff8), api.ErrAccess)
}

// TestStm: P13.3: registers into memory, of which those that were done stay.
func TestStm(t *testing.T) {
	s := regs(1, 7, 0x238, 0x240, 3)
	for _, x := range []struct {
		i    api.Instr
		want api.State
		obs  []api.Obs
		e    api.Errno
	}{
		{api.Instr{N: 1, List: 9, Back: true}, on(with(s, 1, 0x240), pc+2), seen(3, 0x238, 3, 0x23c), 0},
		{api.Instr{N: 1, List: 13, Back: true}, on(with(s, 1, 0x244), pc+2), seen(3, 0x238, 3, 0x23c, 3, 0x240, 7, 3), 0},
		{api.Instr{N: 1, List: 9, Wide: true}, on(s, pc+4), seen(3, 0x238, 3, 0x23c), 0},
		{api.Instr{N: 1, List: 11, Wide: true}, on(s, pc+4), seen(3, 0x238, 3, 0x23c, 3, 0x240, 7, 3), 0},
		{api.Instr{N: 2, List: 0x400a, Back: true, Down: true, Wide: true}, on(with(s, 2, 0x234), pc+4), seen(3, 0x234, 3, 0x238, 3, 0x23c), 0},
		{api.Instr{N: 2, List: 9, Down: true, Wide: true}, on(s, pc+4), seen(3, 0x238, 3, 0x23c), 0},
		{api.Instr{N: 3, List: 3, Back: true}, s, seen(3, 3), api.ErrAlign},
	} {
		i := x.i
		i.Op, i.Cond = api.Stm, al
		is(t, "P13.3", field(t), s, i, x.want, x.obs, x.e)
	}
	m := field(t)
	late := with(s, 1, 0x278)
	is(t, "P13.1", m, late, api.Instr{Op: api.Stm, Cond: al, N: 1, List: 13, Back: true}, late, seen(3, 0x278, 7, 7, 3, 0x27c, 7, 0x240, 3, 0x280), api.ErrAccess)
	first, _ := m.Load(0x278, 4)
	next, _ := m.Load(0x27c, 4)
	if first != 7 || next != 0x240 {
		t.Errorf("P13.1: stores that were done stay: %#x, %#x", first, next)
	}
	sem.Step(with(s, 13, 0x210), m, pc, api.Instr{Op: api.Stm, Cond: al, N: 13, List: 0x4002, Back: true, Down: true})
	first, _ = m.Load(0x208, 4)
	next, _ = m.Load(0x20c, 4)
	if first != 0x238 || next != 0xe0 {
		t.Errorf("P13.3: what was pushed: %#x, %#x", first, next)
	}
}

// TestBranches: P13.3: places to go to.
func TestBranches(t *testing.T) {
	s := regs(4, 0, 0x301, 0x302, sem.Return, 0xffffffff, 1)
	linked := with(s, 14, pc+5)
	for _, x := range []struct {
		i    api.Instr
		want api.State
		e    api.Errno
	}{
		{api.Instr{Op: api.B, Cond: al, Imm: 0x20}, on(s, 0x124), 0},
		{api.Instr{Op: api.B, Cond: al, Imm: 0xfffffffc}, on(s, pc), 0},
		{api.Instr{Op: api.B, Cond: al, Imm: 0xfffffe00}, on(s, 0xffffff04), 0},
		{api.Instr{Op: api.B, Cond: al, Imm: 0x20, Wide: true}, on(s, 0x124), 0},
		{api.Instr{Op: api.B, Cond: 0, Imm: 0x20}, on(s, 0x124), 0},
		{api.Instr{Op: api.B, Cond: 1, Imm: 0x20}, on(s, pc+2), 0},
		{api.Instr{Op: api.B, Cond: 1, Imm: 0x20, Wide: true}, on(s, pc+4), 0},
		{api.Instr{Op: api.Bl, Cond: al, Imm: 0x20, Wide: true}, on(linked, 0x124), 0},
		{api.Instr{Op: api.Bl, Cond: al, Imm: 0xfffffff0, Wide: true}, on(linked, 0xf4), 0},
		{api.Instr{Op: api.Bx, Cond: al, M: 1}, on(s, 0x300), 0},
		{api.Instr{Op: api.Bx, Cond: al, M: 2}, s, api.ErrState},
		{api.Instr{Op: api.Bx, Cond: al, M: 0}, s, api.ErrState},
		{api.Instr{Op: api.Bx, Cond: al, M: 3}, on(s, 0xfffffff9), 0},
		{api.Instr{Op: api.Bx, Cond: al, M: 4}, on(s, 0xfffffffe), 0},
		{api.Instr{Op: api.Bx, Cond: al, M: 5}, on(s, 0), 0},
		{api.Instr{Op: api.Bx, Cond: al, M: 14}, s, api.ErrState},
		{api.Instr{Op: api.Blx, Cond: al, M: 1}, on(with(s, 14, pc+3), 0x300), 0},
		{api.Instr{Op: api.Blx, Cond: al, M: 3}, on(with(s, 14, pc+3), 0xfffffff9), 0},
		{api.Instr{Op: api.Blx, Cond: al, M: 2}, s, api.ErrState},
		{api.Instr{Op: api.Cbz, Cond: al, N: 0, Imm: 0x7e}, on(s, 0x182), 0},
		{api.Instr{Op: api.Cbz, Cond: al, N: 1, Imm: 0x7e}, on(s, pc+2), 0},
		{api.Instr{Op: api.Cbz, Cond: al, N: 0}, on(s, 0x104), 0},
		{api.Instr{Op: api.Cbnz, Cond: al, N: 0, Imm: 0x7e}, on(s, pc+2), 0},
		{api.Instr{Op: api.Cbnz, Cond: al, N: 1, Imm: 0x7e}, on(s, 0x182), 0},
		{api.Instr{Op: api.Cbnz, Cond: al, N: 4, Imm: 2}, on(s, 0x106), 0},
	} {
		is(t, "P13.3", nil, s, x.i, x.want, pcOnly(), x.e)
	}
	if sem.Return != 4294967289 {
		t.Errorf("P13.3: Return is %d", sem.Return)
	}
}

// TestLinks: P13.4: what is read is what was there ahead of it, though the same register is written.
func TestLinks(t *testing.T) {
	link := regs(0)
	link.R[14] = 0x801
	is(t, "P13.4", nil, link, api.Instr{Op: api.Blx, Cond: al, M: 14}, on(with(link, 14, pc+3), 0x800), pcOnly(), 0)
	s := regs(0, 3, 5)
	is(t, "P13.4", nil, s, api.Instr{Op: api.Umull, Cond: al, D: 0, A: 1, N: 0, M: 1, Wide: true}, on(with(with(s, 0, 15), 1, 0), pc+4), pcOnly(), 0)
	is(t, "P13.4", nil, s, api.Instr{Op: api.Umlal, Cond: al, D: 1, A: 0, N: 0, M: 1, Wide: true}, on(with(with(s, 1, 20), 0, 3), pc+4), pcOnly(), 0)
	is(t, "P13.4", nil, s, api.Instr{Op: api.Mls, Cond: al, D: 0, N: 0, M: 1, A: 0, Wide: true}, on(with(s, 0, 0xfffffff4), pc+4), pcOnly(), 0)
	is(t, "P13.4", nil, s, api.Instr{Op: api.Bfi, Cond: al, D: 0, N: 0, Imm: 4 + 32*4, Wide: true}, on(with(s, 0, 0x33), pc+4), pcOnly(), 0)
	is(t, "P13.4", nil, flagged(s, api.C), api.Instr{Op: api.Adc, Cond: al, D: 0, N: 0, M: 0, S: true}, on(with(flagged(s, 0), 0, 7), pc+2), pcOnly(), 0)
}

// TestFlags: P13.2: which flags are told, which stay.
func TestFlags(t *testing.T) {
	const n, z, c, v = api.N, api.Z, api.C, api.V
	for _, x := range []struct {
		s    api.State
		i    api.Instr
		want int
	}{
		{regs(c|v, 0, 0x80000000, 0x80000000), api.Instr{Op: api.And, N: 1, M: 2, S: true}, n | c | v},
		{regs(c|v, 0, 1, 2), api.Instr{Op: api.And, N: 1, M: 2, S: true}, z | c | v},
		{regs(n|z, 0, 1, 2), api.Instr{Op: api.Orr, N: 1, M: 2, S: true}, 0},
		{regs(15, 0, 1, 2), api.Instr{Op: api.Orr, N: 1, M: 2}, 15},
		{regs(15, 0, 1, 2), api.Instr{Op: api.Sub, N: 1, M: 2}, 15},
		{regs(0, 0, 1, 2), api.Instr{Op: api.Eor, N: 1, M: 2, Sh: api.ShLsr, Amt: 2, S: true}, c},
		{regs(c, 0, 1, 2), api.Instr{Op: api.Eor, N: 1, M: 2, Sh: api.ShLsr, Amt: 1, S: true}, z},
		{regs(c, 0, 1, 2), api.Instr{Op: api.Bic, N: 1, Imm: 0x80000000, UseImm: true, A: 1, S: true}, c},
		{regs(c, 0, 1, 2), api.Instr{Op: api.Orn, N: 1, Imm: 0x7f000000, UseImm: true, A: 1, S: true}, n},
		{regs(v, 0, 1, 2), api.Instr{Op: api.Mvn, Imm: 0xffffffff, UseImm: true, A: 1, S: true}, z | c | v},
		{regs(c, 0, 1, 2), api.Instr{Op: api.Tst, N: 1, M: 2, S: true}, z | c},
		{regs(c, 0, 1, 1), api.Instr{Op: api.Teq, N: 1, M: 2, S: true}, z | c},
		{regs(0, 0, 2, 1), api.Instr{Op: api.Cmp, N: 1, M: 2, S: true}, c},
		{regs(15, 0, 1, 2), api.Instr{Op: api.Cmp, N: 1, M: 2, S: true}, n},
		{regs(0, 0, 0x80000000, 0x80000000), api.Instr{Op: api.Cmn, N: 1, M: 2, S: true}, z | c | v},
		{regs(0, 0, 0, 0), api.Instr{Op: api.Sbc, N: 1, M: 2, S: true}, n},
		{regs(c, 0, 0, 0), api.Instr{Op: api.Sbc, N: 1, M: 2, S: true}, z | c},
		{regs(0, 0, 0), api.Instr{Op: api.Rsb, N: 1, UseImm: true, S: true}, z | c},
		{regs(0, 0, 0x80000000), api.Instr{Op: api.Rsb, N: 1, UseImm: true, S: true}, n | v},
		{regs(c, 0, 0xffffffff, 0), api.Instr{Op: api.Adc, N: 1, M: 2, S: true}, z | c},
		{regs(0, 0, 0xffffffff, 0), api.Instr{Op: api.Adc, N: 1, M: 2, S: true}, n},
		{regs(c|v, 0, 1, 0), api.Instr{Op: api.Lsr, N: 1, M: 2, S: true}, c | v},
		{regs(v, 0, 1, 0x100), api.Instr{Op: api.Lsr, N: 1, M: 2, S: true}, v},
		{regs(0, 0, 1, 0x101), api.Instr{Op: api.Lsr, N: 1, M: 2, S: true}, z | c},
		{regs(c, 0, 0x80000000, 32), api.Instr{Op: api.Ror, N: 1, M: 2, S: true}, n | c},
		{regs(c, 0, 1, 32), api.Instr{Op: api.Ror, N: 1, M: 2, S: true}, 0},
		{regs(0, 0, 0x80000000, 224), api.Instr{Op: api.Ror, N: 1, M: 2, S: true}, n | c},
		{regs(c, 0, 0x7fffffff, 255), api.Instr{Op: api.Asr, N: 1, M: 2, S: true}, z},
		{regs(0, 0, 3), api.Instr{Op: api.Lsl, N: 1, Imm: 31, UseImm: true, S: true}, n | c},
		{regs(0, 0, 3), api.Instr{Op: api.Lsl, N: 1, Imm: 31, UseImm: true}, 0},
		{regs(c|v, 0, 0x10000, 0x10000), api.Instr{Op: api.Mul, N: 1, M: 2, S: true}, z | c | v},
		{regs(z, 0, 0x10000, 0x8000), api.Instr{Op: api.Mul, N: 1, M: 2, S: true}, n},
		{regs(z, 0, 0x10000, 0x8000), api.Instr{Op: api.Mul, N: 1, M: 2}, z},
		{regs(15, 0, 1, 2, 3), api.Instr{Op: api.Smlal, N: 1, M: 2, A: 3}, 15},
		{regs(15, 0, 1, 2, 3), api.Instr{Op: api.Clz, M: 3}, 15},
	} {
		x.i.Cond = al
		got, _, err := sem.Step(x.s, nil, pc, x.i)
		if got.Flags != x.want || err != api.OK {
			t.Errorf("P13.2: Step of %+v from %+v: flags %d, %d, not %d", x.i, x.s, got.Flags, err, x.want)
		}
	}
}

// TestFlagsAbove: P2.1: of flags the lowest four bits count.
func TestFlagsAbove(t *testing.T) {
	for flags := range 16 {
		for _, more := range []int{16, 0x7fff0, -16, math.MinInt} {
			for _, i := range each() {
				i.Cond = api.Z + flags%11
				s := regs(flags, 5, 0x204, 3, 0x301)
				want, obs, e := sem.Step(s, field(t), pc, i)
				s.Flags = flags + more
				got, told, err := sem.Step(s, field(t), pc, i)
				if got.Flags&15 != want.Flags&15 || got.R != want.R || !slices.Equal(obs, told) || err != e {
					t.Errorf("P2.1: Step of %+v of flags %#x: %+v, %v, %d, not %+v, %v, %d", i, s.Flags, got, told, err, want, obs, e)
				}
			}
		}
	}
}

// TestAgain: DOC.md's rule 8, and P13.4: the same again is the same, and nothing that was told is shared.
func TestAgain(t *testing.T) {
	s := regs(2, 5, 0x204, 3, 0x301)
	for _, i := range each() {
		i.Cond = al
		first, obs, err := sem.Step(s, field(t), pc, i)
		kept := slices.Clone(obs)
		for k := range obs {
			obs[k] = api.Obs{Kind: 99, A: 99}
		}
		_ = append(obs, api.Obs{Kind: 98})
		is(t, "P13.4", field(t), s, i, first, kept, err)
	}
}

// TestTotal: DOC.md's rule 1: whatever i is, it ends.
func TestTotal(t *testing.T) {
	numbers := []int{0, 1, 15, 16, 255, -1, math.MaxInt, math.MinInt}
	for o := -1; o <= api.Ops+1; o++ {
		for _, x := range numbers {
			for _, y := range numbers {
				for k := range 16 {
					i := api.Instr{
						Op: o, Wide: k&1 != 0, S: k&2 != 0, Cond: al, D: x, N: y, M: x, A: y, Imm: uint32(x),
						UseImm: k&4 != 0, Sh: y, Amt: x, List: x, Back: k&8 != 0, Down: k&1 != 0,
					}
					s := regs(x, 0x200, 0x240, uint32(y))
					_, obs, _ := sem.Step(s, nil, pc, i)
					if len(obs) == 0 || obs[0] != pcOnly()[0] {
						t.Fatalf("P13.1: Step of %+v: it lets see %v", i, obs)
					}
					sem.Step(s, field(t), pc, i)
					sem.Second(s, i)
					sem.Address(s, pc, i)
					i.Cond = y
					sem.Step(s, nil, pc, i)
				}
			}
		}
	}
}
