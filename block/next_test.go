package block_test

import (
	"math"
	"math/rand"
	"slices"
	"testing"

	"sourdine/api"
	"sourdine/block"
)

// ending: a block of two Nops and i behind them, from pc on.
func ending(pc uint32, i api.Instr) block.Block {
	return block.Block{PC: pc, Places: []uint32{pc, pc + 2, pc + 4}, L: []api.Instr{nop, nop, i}, End: pc + 4 + size(i)}
}

// nextHolds: Next of b tells want, and leaves b as it is.
func nextHolds(t *testing.T, b block.Block, want []uint32) {
	t.Helper()
	then := block.Block{PC: b.PC, Places: slices.Clone(b.Places), L: slices.Clone(b.L), End: b.End}
	if got := block.Next(b); !slices.Equal(got, want) {
		t.Errorf("P11.2: Next of %+v: %v, not %v", b, got, want)
	}
	if !alike(b, then) {
		t.Errorf("P11.2: Next changed %+v to %+v", then, b)
	}
}

// TestNextPlain: places written out.
func TestNextPlain(t *testing.T) {
	for _, x := range []struct {
		i    api.Instr
		want []uint32
	}{
		{api.Instr{Op: api.B, Cond: al, Imm: 0x20}, []uint32{0x128}},
		{api.Instr{Op: api.B, Cond: 0, Imm: 0x20}, []uint32{0x106, 0x128}},
		{api.Instr{Op: api.B, Cond: 13, Imm: 0xffffff00}, []uint32{0x8, 0x106}},
		{api.Instr{Op: api.B, Cond: 15, Imm: 0x20}, []uint32{0x106, 0x128}},
		{api.Instr{Op: api.B, Cond: 0, Imm: 0xfffffffe}, []uint32{0x106}},
		{api.Instr{Op: api.B, Cond: al, Imm: 0xfffffffe}, []uint32{0x106}},
		{api.Instr{Op: api.B, Wide: true, Cond: al, Imm: 0x20}, []uint32{0x128}},
		{api.Instr{Op: api.B, Wide: true, Cond: 7, Imm: 0x20}, []uint32{0x108, 0x128}},
		{api.Instr{Op: api.B, Wide: true, Cond: 7}, []uint32{0x108}},
		{api.Instr{Op: api.Cbz, Cond: al, N: 1, Imm: 6}, []uint32{0x106, 0x10e}},
		{api.Instr{Op: api.Cbnz, Cond: al, N: 1}, []uint32{0x106, 0x108}},
		{api.Instr{Op: api.Bl, Wide: true, Cond: al, Imm: 0x20}, []uint32{0x108, 0x128}},
		{api.Instr{Op: api.Bl, Wide: true, Cond: 3, Imm: 0x20}, []uint32{0x108, 0x128}},
		{api.Instr{Op: api.Bl, Wide: true, Cond: al, Imm: 0xfffffffc}, []uint32{0x104, 0x108}},
		{api.Instr{Op: api.Bl, Wide: true, Cond: al}, []uint32{0x108}},
		{api.Instr{Op: api.Bx, Cond: al, M: 14}, nil},
		{api.Instr{Op: api.Bx, Cond: 3, M: 14}, []uint32{0x106}},
		{api.Instr{Op: api.Blx, Cond: al, M: 3}, []uint32{0x106}},
		{api.Instr{Op: api.Blx, Cond: 3, M: 3}, []uint32{0x106}},
		{api.Instr{Op: api.Ldm, Cond: al, N: 13, List: 0x8010, Back: true}, nil},
		{api.Instr{Op: api.Ldm, Cond: 3, N: 13, List: 0x8010, Back: true}, []uint32{0x106}},
		{api.Instr{Op: api.Ldm, Cond: al, N: 13, List: 0x0010, Back: true}, []uint32{0x106}},
		{api.Instr{Op: api.Ldm, Cond: 3, N: 13, List: 0x0010, Back: true}, []uint32{0x106}},
		{api.Instr{Op: api.Ldm, Wide: true, Cond: al, N: 1, List: 0x8010}, nil},
		{api.Instr{Op: api.Stm, Wide: true, Cond: al, N: 1, List: 0x4010}, []uint32{0x108}},
		{api.Instr{Op: api.Svc, Cond: al}, []uint32{0x106}},
		{api.Instr{Op: api.Svc, Cond: 3, Imm: 2}, []uint32{0x106}},
		{api.Instr{Op: api.Bkpt, Cond: al, Imm: 2}, nil},
		{api.Instr{Op: api.Bkpt, Cond: 3, Imm: 2}, nil},
		{api.Instr{Op: api.Undefined, Cond: al, Imm: 0xde00}, nil},
		{api.Instr{Op: api.Undefined, Wide: true, Cond: al, Imm: 0xffffffff}, nil},
		{api.Instr{Op: api.Unpredictable, Cond: al, Imm: 0xd001}, nil},
		{api.Instr{Op: api.Mov, Cond: al, D: 1, Imm: 0x20, UseImm: true, S: true}, []uint32{0x106}},
		{api.Instr{Op: api.Ldr, Cond: al, D: 1, N: 15, Imm: 0x20, UseImm: true}, []uint32{0x106}},
		{api.Instr{Op: api.It, Cond: al, Imm: 0x08}, []uint32{0x106}},
		{api.Instr{Op: api.Nop, Cond: al, Imm: 2}, []uint32{0x106}},
	} {
		nextHolds(t, ending(0x100, x.i), x.want)
		nextHolds(t, block.Block{PC: 0x104, Places: []uint32{0x104}, L: []api.Instr{x.i}, End: 0x104 + size(x.i)}, x.want)
	}
}

// TestNextEach: all kinds and what is none, all conditions, at the edges of all numbers.
func TestNextEach(t *testing.T) {
	edges := []uint32{0, 2, 0xfffffffe, 0xfffffffc, 0xfffffffa, 0x7ffffffe, 0x80000000, 0xff000000, 0x00fffffe}
	for o := -1; o <= api.Ops+1; o++ {
		for c := -1; c <= 16; c++ {
			for _, v := range edges {
				for _, pc := range []uint32{0, 2, 0x100, 0xffffeff0, 0xfffffff8, 0xfffffffa, 0xfffffffc, 0xfffffffe} {
					for _, list := range []int{0, 1 << 15, 0x7fff, 0xffff} {
						i := api.Instr{Op: o, Wide: v%4 == 2, Cond: c, Imm: v, List: list}
						nextHolds(t, ending(pc, i), goes(i, pc+4, pc+4+size(i)))
					}
				}
			}
		}
	}
}

// TestNextNone: of a block without instructions, wherever it is and whatever its Places are.
func TestNextNone(t *testing.T) {
	for _, end := range []uint32{0, 1, 0x104, 0xffffffff} {
		nextHolds(t, block.Block{End: end}, []uint32{end})
		nextHolds(t, block.Block{PC: 0x100, Places: []uint32{}, L: []api.Instr{}, End: end}, []uint32{end})
		nextHolds(t, block.Block{PC: 0x100, Places: []uint32{0x100, 0x102}, End: end}, []uint32{end})
	}
}

// TestNextOthers: blocks that nobody found: the place is the last instruction's own, and ahead of End where there is none.
func TestNextOthers(t *testing.T) {
	b := api.Instr{Op: api.B, Cond: al, Imm: 0x20}
	bl := api.Instr{Op: api.Bl, Wide: true, Cond: al, Imm: 0x20}
	nextHolds(t, block.Block{Places: []uint32{0x10, 0x30, 0x50}, L: []api.Instr{nop, b}, End: 0x100}, []uint32{0x54})
	nextHolds(t, block.Block{Places: []uint32{0x10, 0x200}, L: []api.Instr{bl, bl}, End: 0x100}, []uint32{0x100, 0x224})
	nextHolds(t, block.Block{Places: []uint32{0x10}, L: []api.Instr{nop, b}, End: 0x100}, []uint32{0x122})
	nextHolds(t, block.Block{L: []api.Instr{bl}, End: 0x100}, []uint32{0x100, 0x120})
	odd := api.Instr{Op: math.MinInt, Cond: math.MaxInt, D: -1, N: math.MinInt, List: -1, Imm: math.MaxUint32}
	nextHolds(t, block.Block{PC: 1, L: []api.Instr{odd}, End: 0}, []uint32{0})
}

// TestNextFound: of what is found in halves at random.
func TestNextFound(t *testing.T) {
	r := rand.New(rand.NewSource(112))
	for range 3000 {
		var l []uint16
		for range 24 {
			l = append(l, some(r))
		}
		if b, ok := holds(t, code(t, bytesOf(l...)...), at); ok {
			k := len(b.L) - 1
			nextHolds(t, b, goes(b.L[k], b.Places[k], b.End))
		}
	}
}

// TestNextAnew: what is answered is nobody else's.
func TestNextAnew(t *testing.T) {
	b := ending(0x100, api.Instr{Op: api.B, Cond: 0, Imm: 0x20})
	l := block.Next(b)
	l[0], l[1] = 1, 2
	_ = append(l, 3)
	nextHolds(t, b, []uint32{0x106, 0x128})
}

// TestSame: a block differs in whichever of its parts differs.
func TestSame(t *testing.T) {
	one := func() block.Block {
		return ending(0x100, api.Instr{Op: api.Ldr, Wide: true, Cond: 3, D: 1, N: 2, Imm: 8, UseImm: true})
	}
	last := func(turn func(i *api.Instr)) block.Block {
		b := one()
		turn(&b.L[2])
		return b
	}
	others := []block.Block{
		last(func(i *api.Instr) { i.Op++ }), last(func(i *api.Instr) { i.Wide = false }), last(func(i *api.Instr) { i.S = true }),
		last(func(i *api.Instr) { i.Cond = al }), last(func(i *api.Instr) { i.D++ }), last(func(i *api.Instr) { i.N++ }),
		last(func(i *api.Instr) { i.M++ }), last(func(i *api.Instr) { i.A++ }), last(func(i *api.Instr) { i.Imm++ }),
		last(func(i *api.Instr) { i.UseImm = false }), last(func(i *api.Instr) { i.Sh++ }), last(func(i *api.Instr) { i.Amt++ }),
		last(func(i *api.Instr) { i.List++ }), last(func(i *api.Instr) { i.Back = true }), last(func(i *api.Instr) { i.Down = true }),
	}
	for _, turn := range []func(b *block.Block){
		func(b *block.Block) { b.PC++ }, func(b *block.Block) { b.End++ },
		func(b *block.Block) { b.Places[0]++ }, func(b *block.Block) { b.Places[2]++ },
		func(b *block.Block) { b.Places = b.Places[:2] }, func(b *block.Block) { b.Places = append(b.Places, 0) },
		func(b *block.Block) { b.L[0].Imm++ }, func(b *block.Block) { b.L = b.L[:2] }, func(b *block.Block) { b.L = append(b.L, nop) },
		func(b *block.Block) { b.L = nil }, func(b *block.Block) { b.Places = nil }, func(b *block.Block) { *b = block.Block{} },
	} {
		b := one()
		turn(&b)
		others = append(others, b)
	}
	for k, b := range others {
		if block.Same(one(), b) || block.Same(b, one()) || !block.Same(b, b) {
			t.Errorf("P11.1: Same, other %d", k)
		}
	}
	if !block.Same(one(), one()) {
		t.Error("P11.1: Same of a block made twice")
	}
	if !block.Same(block.Block{}, block.Block{Places: []uint32{}, L: []api.Instr{}}) {
		t.Error("P11.1: Same of nil lists and empty ones")
	}
}

// TestBytes: End less PC, round by 2^32.
func TestBytes(t *testing.T) {
	for _, x := range [][3]uint32{{0, 0, 0}, {0x100, 0x106, 6}, {0xfffffffe, 2, 4}, {2, 0, 0xfffffffe}, {0, 0xffffffff, 0xffffffff}} {
		if n := block.Bytes(block.Block{PC: x[0], End: x[1], L: []api.Instr{far}, Places: []uint32{7}}); n != x[2] {
			t.Errorf("P11.1: Bytes of %#x to %#x: %d", x[0], x[1], n)
		}
	}
}
