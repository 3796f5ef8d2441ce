package block_test

import (
	"math/rand"
	"slices"
	"testing"

	"sourdine/api"
	"sourdine/block"
	"sourdine/mem"
	"sourdine/thumb"
)

// Instructions of many of these tests.
var (
	nop   = api.Instr{Op: api.Nop, Cond: al}
	mov   = api.Instr{Op: api.Mov, Cond: al, D: 1, Imm: 5, UseImm: true, S: true}
	far   = api.Instr{Op: api.Mov, Wide: true, Cond: al, D: 1, Imm: 5, UseImm: true, A: 2}
	quiet = api.Instr{Op: api.Nop, Cond: 2}
)

// it: the instruction IT with this number.
func it(v uint32) api.Instr { return api.Instr{Op: api.It, Cond: al, Imm: v} }

// many: n times i.
func many(n int, i api.Instr) []api.Instr { return slices.Repeat([]api.Instr{i}, n) }

// all: lists one behind another.
func all(l ...[]api.Instr) []api.Instr { return slices.Concat(l...) }

// cs: an IT of cs, and all the n instructions that stand in it.
func cs(n int) []api.Instr { return append([]api.Instr{it(0x20 | 8>>(n-1))}, many(n, quiet)...) }

// TestFindPlain: instructions written out, and how many of them are the block.
func TestFindPlain(t *testing.T) {
	for k, x := range []struct {
		l []api.Instr
		n int
	}{
		{all(many(2, mov), []api.Instr{{Op: api.B, Cond: al, Imm: 8}, mov}), 3},
		{[]api.Instr{{Op: api.B, Cond: 4, Imm: 8}, mov}, 1},
		{[]api.Instr{far, {Op: api.B, Wide: true, Cond: 4, Imm: 8}, mov}, 2},
		{[]api.Instr{far, far, {Op: api.Bl, Wide: true, Cond: al, Imm: 8}, far}, 3},
		{[]api.Instr{{Op: api.Bx, Cond: al, M: 14}, mov}, 1},
		{[]api.Instr{mov, {Op: api.Blx, Cond: al, M: 3}, mov}, 2},
		{[]api.Instr{mov, {Op: api.Cbz, Cond: al, N: 3, Imm: 8}, mov}, 2},
		{[]api.Instr{mov, {Op: api.Cbnz, Cond: al, N: 3, Imm: 8}, mov}, 2},
		{[]api.Instr{{Op: api.Ldm, Cond: al, N: 13, List: 0x8002, Back: true}, mov}, 1},
		{[]api.Instr{{Op: api.Ldm, Cond: al, N: 13, List: 2, Back: true}, {Op: api.Svc, Cond: al}}, 2},
		{[]api.Instr{mov, {Op: api.Svc, Cond: al, Imm: 2}, mov}, 2},
		{[]api.Instr{mov, {Op: api.Bkpt, Cond: al, Imm: 2}, mov}, 2},
		{[]api.Instr{it(0x08), {Op: api.B, Cond: 0, Imm: 8}, mov}, 2},
		{[]api.Instr{it(0x08), {Op: api.Svc, Cond: 0, Imm: 1}, mov}, 2},
		{[]api.Instr{it(0x0c), {Op: api.Nop, Cond: 0}, {Op: api.Bx, Cond: 1, M: 14}, mov}, 3},
		{[]api.Instr{{Op: api.Ldr, Cond: al, D: 1, N: 2, UseImm: true}, {Op: api.Str, Cond: al, D: 1, N: 2, UseImm: true}, {Op: api.Bkpt, Cond: al}}, 3},
	} {
		m := code(t, put(t, x.l...)...)
		b, _ := holds(t, m, at)
		if !slices.Equal(b.L, x.l[:x.n]) {
			t.Errorf("P11.1: Find %d: %+v, not the first %d", k, b.L, x.n)
		}
	}
}

// TestFindFull: MaxBlock instructions, and no more but for an IT's.
func TestFindFull(t *testing.T) {
	if api.MaxBlock != 16 {
		t.Fatal("the limit isn't the one that these tests know")
	}
	for k, x := range []struct {
		l []api.Instr
		n int
	}{
		{many(40, nop), 16}, {many(40, far), 16}, {all(many(8, nop), many(8, far), many(8, nop)), 16},
		{all(many(15, nop), []api.Instr{{Op: api.Svc, Cond: al}, nop}), 16},
		{all(many(16, nop), []api.Instr{{Op: api.Svc, Cond: al}, nop}), 16},
		{all(many(14, nop), []api.Instr{{Op: api.Svc, Cond: al}, nop}), 15},
		{all(many(14, nop), cs(1), many(4, nop)), 16},
		{all(many(14, nop), cs(2), many(4, nop)), 17},
		{all(many(15, nop), cs(1), many(4, nop)), 17},
		{all(many(15, nop), cs(4), many(4, nop)), 20},
		{all(many(15, nop), cs(4), cs(4), many(4, nop)), 20},
		{all(many(12, nop), cs(4), many(4, nop)), 17},
		{all(many(11, nop), cs(4), many(4, nop)), 16},
		{all(many(11, nop), cs(4), cs(4), many(4, nop)), 16},
		{all(many(10, nop), cs(4), cs(4), many(4, nop)), 20},
		{all(many(10, nop), cs(4), cs(1), many(4, nop)), 17},
		{all(many(16, nop), cs(4), many(4, nop)), 16},
		{all(cs(4), cs(4), cs(4), cs(4), cs(4)), 20},
		{all(cs(4), cs(4), cs(4), cs(4)), 20},
		{all(many(15, nop), []api.Instr{it(0x28), {Op: api.Bx, Cond: 2, M: 14}}, many(4, nop)), 17},
		{all(many(15, nop), []api.Instr{it(0x24), {Op: api.Nop, Cond: 2}, {Op: api.Svc, Cond: 2}}, many(4, nop)), 18},
	} {
		m := code(t, put(t, x.l...)...)
		b, _ := holds(t, m, at)
		if !slices.Equal(b.L, x.l[:x.n]) {
			t.Errorf("P11.1: Find %d: %d of them, not %d", k, len(b.L), x.n)
		}
	}
}

// TestFindBad: what is no instruction, or may not be, is the last one, within an IT too, which then stays open.
func TestFindBad(t *testing.T) {
	for k, x := range []struct {
		l    []uint16
		n    int
		last int
	}{
		{[]uint16{0xde00, 0x2105}, 1, api.Undefined}, {[]uint16{0x2105, 0xde00, 0x2105}, 2, api.Undefined},
		{[]uint16{0x2105, 0xffff, 0xffff, 0x2105}, 2, api.Undefined},
		{[]uint16{0x46f7, 0x2105}, 1, api.Unpredictable}, {[]uint16{0xf040, 0x8001, 0x2105}, 1, api.B},
		{[]uint16{0xbf0d, 0xbf00, 0xde00, 0xbf00, 0xbf00}, 3, api.Undefined},
		{[]uint16{0xbf0d, 0xbf00, 0xd001, 0xbf00, 0xbf00}, 3, api.Unpredictable},
		{[]uint16{0xbf0d, 0xdf00, 0xbf00, 0xbf00, 0xbf00}, 2, api.Unpredictable},
		{[]uint16{0xbf0d, 0xbf00, 0xbf0d, 0xbf00, 0xbf00}, 3, api.Unpredictable},
		{[]uint16{0xbf0c, 0xbf00, 0xbd00, 0xbf00}, 3, api.Ldm}, {[]uint16{0xbf0c, 0xbd00, 0xbf00}, 2, api.Unpredictable},
	} {
		m := code(t, bytesOf(x.l...)...)
		b, _ := holds(t, m, at)
		if len(b.L) != x.n || b.L[x.n-1].Op != x.last {
			t.Errorf("P11.1: Find %d: %+v, not %d", k, b.L, x.n)
		}
	}
}

// TestFindEach: every half, alone ahead of others and behind one, outside of an IT and within one.
func TestFindEach(t *testing.T) {
	m := made(t, ram(at, 16))
	r := rand.New(rand.NewSource(11))
	ended := 0
	for h := range 65536 {
		second := uint16(r.Intn(65536))
		for _, l := range [][]uint16{{uint16(h), second}, {0x2105, uint16(h), second}, {0xbf08, uint16(h), second}, {0xbf0c, uint16(h), second}, {0xbf0c, 0xbf00, uint16(h), second}} {
			lay(t, m, at, append(l, 0xbf00)...)
			if b, _ := holds(t, m, at); len(b.L) <= len(l) {
				ended++
			}
		}
		if thumb.Wide(uint16(h)) {
			lay(t, m, at+12, 0xbf00, uint16(h))
			holds(t, m, at+12)
			holds(t, m, at+14)
		}
	}
	if ended < 65536 {
		t.Errorf("P11.1: so few of the blocks end: %d", ended)
	}
}

// lay: puts halves at a and behind.
func lay(t *testing.T, m *mem.Mem, a uint32, l ...uint16) {
	t.Helper()
	for k, h := range l {
		if err := m.Store(a+2*uint32(k), 2, uint32(h)); err != api.OK {
			t.Fatalf("Store: %d", err)
		}
	}
}

// TestFindErrors: a block ends ahead of what may not be run; where that is the first one, there is none.
func TestFindErrors(t *testing.T) {
	two, cut, open := []byte{5, 0x20, 6, 0x20}, []byte{5, 0x20, 0x40, 0xf2}, []byte{0x0c, 0xbf, 0, 0xbf}
	deaf := api.Region{From: at + 4, Len: 4, Read: true, Write: true, Bytes: []byte{5, 0x20, 6, 0x20}}
	low := uint32(0xffffeffc)
	for k, x := range []struct {
		l    []api.Region
		pc   uint32
		n    int
		end  uint32
		want api.Errno
	}{
		{nil, 0, 0, 0, api.ErrExec}, {nil, at, 0, 0, api.ErrExec},
		{[]api.Region{ram(at, 4, two...)}, at, 2, at + 4, api.OK},
		{[]api.Region{ram(at, 4, two...)}, at + 2, 1, at + 4, api.OK},
		{[]api.Region{ram(at, 4, two...)}, at + 4, 0, 0, api.ErrExec},
		{[]api.Region{ram(at, 4, two...)}, at - 2, 0, 0, api.ErrExec},
		{[]api.Region{ram(at, 4, two...)}, at + 1, 0, 0, api.ErrExec},
		{[]api.Region{ram(at, 4, two...)}, at + 3, 0, 0, api.ErrExec},
		{[]api.Region{ram(at, 4, cut...)}, at, 1, at + 2, api.OK},
		{[]api.Region{ram(at, 4, cut...)}, at + 2, 0, 0, api.ErrExec},
		{[]api.Region{ram(at, 4, cut...), ram(at+4, 4, 5, 0, 5, 0x20)}, at, 3, at + 8, api.OK},
		{[]api.Region{ram(at, 4, cut...), ram(at+4, 4, 5, 0, 5, 0x20)}, at + 2, 2, at + 8, api.OK},
		{[]api.Region{ram(at, 4, cut...), ram(at+8, 4, 5, 0, 5, 0x20)}, at, 1, at + 2, api.OK},
		{[]api.Region{ram(at, 4, two...), ram(at+4, 4, two...)}, at, 4, at + 8, api.OK},
		{[]api.Region{ram(at, 4, two...), ram(at+8, 4, two...)}, at, 2, at + 4, api.OK},
		{[]api.Region{ram(at, 4, two...), deaf}, at, 2, at + 4, api.OK},
		{[]api.Region{ram(at, 4, cut...), deaf}, at, 1, at + 2, api.OK},
		{[]api.Region{deaf}, at + 4, 0, 0, api.ErrExec},
		{[]api.Region{ram(at, 4, open...)}, at, 2, at + 4, api.OK},
		{[]api.Region{ram(at, 4, 0, 0xbf, 0x0c, 0xbf)}, at, 2, at + 4, api.OK},
		{[]api.Region{ram(low, 4, two...)}, low, 2, low + 4, api.OK},
		{[]api.Region{ram(0, 4, two...)}, 0, 2, 4, api.OK},
		{[]api.Region{ram(0, 4, two...)}, 0xfffffffe, 0, 0, api.ErrExec},
		{[]api.Region{ram(0, 4, two...)}, 0xffffffff, 0, 0, api.ErrExec},
	} {
		m := made(t, x.l...)
		holds(t, m, x.pc)
		b, err := block.Find(m, x.pc)
		if err != x.want || len(b.L) != x.n || len(b.Places) != x.n || b.End != x.end {
			t.Errorf("P11.1: Find %d: %+v, %d", k, b, err)
		}
		if err != api.OK && (b.PC != 0 || b.L != nil || b.Places != nil) {
			t.Errorf("P11.1: Find %d: beside an error %+v", k, b)
		}
	}
	for _, pc := range []uint32{0, 1, 2, at, 0xfffffffe} {
		if b, err := block.Find(nil, pc); !alike(b, block.Block{}) || err != api.ErrExec {
			t.Errorf("P11.1: Find of no memory: %+v, %d", b, err)
		}
	}
}

// TestFindBegins: a block begins without an IT, wherever that may be.
func TestFindBegins(t *testing.T) {
	m := code(t, put(t, it(0x0d), api.Instr{Op: api.Mov, Cond: 0, D: 1, Imm: 5, UseImm: true}, api.Instr{Op: api.Nop, Cond: 1}, api.Instr{Op: api.Nop, Cond: 1}, api.Instr{Op: api.Bx, Cond: 0, M: 14})...)
	if b, _ := holds(t, m, at); len(b.L) != 5 || b.L[1].Cond != 0 || b.L[1].S || b.L[4].Cond != 0 {
		t.Errorf("P11.1: Find ahead of an IT: %+v", b)
	}
	if b, _ := holds(t, m, at+2); len(b.L) != 4 || b.L[0] != mov || b.L[1] != nop || b.L[3].Cond != al {
		t.Errorf("P11.1: Find within an IT: %+v", b)
	}
	again, _ := block.Find(m, at)
	lay(t, m, at+2, 0x2206)
	if b, _ := holds(t, m, at); b.L[1].D != 2 || block.Same(b, again) {
		t.Errorf("P11.1: Find of what was written over: %+v", b)
	}
}

// TestFindKeepsNothing: the memory stays, and no two answers, or lists of one, share anything.
func TestFindKeepsNothing(t *testing.T) {
	m := code(t, put(t, many(20, mov)...)...)
	then := m.Copy()
	a, _ := block.Find(m, at)
	b, _ := block.Find(m, at)
	for k := range a.L {
		a.L[k], a.Places[k] = api.Instr{}, 1
	}
	_, _ = append(a.L, nop), append(a.Places, 1)
	want, _ := model(m, at)
	if !alike(b, want) || !m.Same(then) {
		t.Errorf("P11.1: what was answered is kept: %+v", b)
	}
}

// some: a half of a kind that lets blocks be long, and now and then any.
func some(r *rand.Rand) uint16 {
	switch n := r.Intn(40); {
	case n < 10:
		return 0xbf00 | uint16(r.Intn(256))
	case n < 25:
		return uint16(r.Intn(0x4000))
	case n < 35:
		return uint16(0x5000 + r.Intn(0x5000))
	case n < 37:
		return 0xf8d1
	}
	return uint16(r.Intn(65536))
}

// TestFindPrograms: halves at random: of each place the block that begins there, and one behind another.
func TestFindPrograms(t *testing.T) {
	r := rand.New(rand.NewSource(113))
	lengths := map[int]int{}
	for range 1500 {
		var l []uint16
		for range 32 * (1 + r.Intn(3)) {
			l = append(l, some(r))
		}
		end := uint32(at + 2*len(l))
		m := made(t, ram(at, end-at, bytesOf(l...)...))
		for a := uint32(at - 2); a < end+2; a++ {
			b, ok := holds(t, m, a)
			if ok {
				lengths[len(b.L)]++
			}
		}
		tiled(t, m, end)
	}
	for n := 1; n <= 20; n++ {
		if lengths[n] == 0 {
			t.Errorf("P11.1: no block of %d", n)
		}
	}
	if len(lengths) != 20 {
		t.Errorf("P11.1: blocks of these lengths: %v", lengths)
	}
}

// tiled: blocks one behind another fill all up to end, but for one half of a wide instruction there.
func tiled(t *testing.T, m *mem.Mem, end uint32) {
	t.Helper()
	a := uint32(at)
	for {
		b, err := block.Find(m, a)
		if err != api.OK {
			break
		}
		if b.PC != a || block.Bytes(b) < 2 || block.Bytes(b) > 4*20 || len(b.L) == 0 || len(b.L) != len(b.Places) {
			t.Fatalf("P11.3: a block that doesn't begin, or end: %+v", b)
		}
		for k, i := range b.L {
			if b.Places[k] != a {
				t.Fatalf("P11.3: a block with a gap: %+v", b)
			}
			a += size(i)
		}
		if b.End != a {
			t.Fatalf("P11.3: a block that doesn't end behind its last one: %+v", b)
		}
	}
	if a != end && a != end-2 {
		t.Fatalf("P11.3: no block at %#x of %#x", a, end)
	}
}
