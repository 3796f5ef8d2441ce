package block_test

import (
	"slices"
	"testing"

	"sourdine/api"
	"sourdine/block"
	"sourdine/fetch"
	"sourdine/mem"
)

const (
	al = api.Always
	at = 0x100 // where the code of these tests begins
)

// ram: a region that may be written and run, but not read.
func ram(from, size uint32, b ...byte) api.Region {
	return api.Region{From: from, Len: size, Write: true, Exec: true, Bytes: b}
}

// made: memory of l, which must be a right list.
func made(t *testing.T, l ...api.Region) *mem.Mem {
	t.Helper()
	m, err := mem.New(l)
	if err != api.OK {
		t.Fatalf("New(%+v): %d", l, err)
	}
	return m
}

// bytesOf: halves as they lie in memory.
func bytesOf(l ...uint16) []byte {
	var b []byte
	for _, h := range l {
		b = append(b, byte(h%256), byte(h/256))
	}
	return b
}

// put: the bytes of l, which must be instructions.
func put(t *testing.T, l ...api.Instr) []byte {
	t.Helper()
	b, ok := fetch.Put(l...)
	if !ok {
		t.Fatalf("Put(%+v): false", l)
	}
	return b
}

// code: memory with b at the beginning of the code, and noughts behind, which are instructions, too.
func code(t *testing.T, b ...byte) *mem.Mem {
	t.Helper()
	return made(t, ram(at, 256, b...))
}

// size: of one instruction.
func size(i api.Instr) uint32 {
	if i.Wide {
		return 4
	}
	return 2
}

// stops: whether nothing of a block stands behind i.
func stops(i api.Instr) bool {
	if i.Op == api.Ldm {
		return i.List >= 1<<15
	}
	return slices.Contains([]int{
		api.B, api.Bl, api.Bx, api.Blx, api.Cbz, api.Cbnz,
		api.Svc, api.Bkpt, api.Undefined, api.Unpredictable,
	}, i.Op)
}

// read: one instruction, where it stands, and how many of an IT still stand behind it.
type read struct {
	place uint32
	i     api.Instr
	left  int
}

// readAll: what stands from pc on, up to an error, wherever blocks begin and end.
func readAll(m *mem.Mem, pc uint32) ([]read, api.Errno) {
	var l []read
	it := fetch.It{}
	for a := pc; len(l) < 64; {
		i, rest, err := fetch.At(m, a, it)
		if err != api.OK {
			return l, err
		}
		l = append(l, read{a, i, len(rest.Conds)})
		a, it = a+size(i), rest
	}
	return l, api.OK
}

// model: what Find tells: the least of what stands from pc on that is a block.
func model(m *mem.Mem, pc uint32) (block.Block, api.Errno) {
	l, err := readAll(m, pc)
	if len(l) == 0 {
		return block.Block{}, err
	}
	n := 1
	for n < len(l) && !stops(l[n-1].i) && (n < 16 || l[n-1].left > 0) {
		n++
	}
	b := block.Block{PC: pc}
	for _, r := range l[:n] {
		b.Places = append(b.Places, r.place)
		b.L = append(b.L, r.i)
		b.End = r.place + size(r.i)
	}
	return b, api.OK
}

// alike: whether two blocks are, without block.Same.
func alike(a, b block.Block) bool {
	return a.PC == b.PC && a.End == b.End && slices.Equal(a.Places, b.Places) && slices.Equal(a.L, b.L)
}

// holds: Find at pc tells what the model does; that block, and whether there is one.
func holds(t *testing.T, m *mem.Mem, pc uint32) (block.Block, bool) {
	t.Helper()
	want, wrong := model(m, pc)
	b, err := block.Find(m, pc)
	if !alike(b, want) || err != wrong {
		t.Fatalf("P11.1: Find %#x: %+v, %d, not %+v, %d", pc, b, err, want, wrong)
	}
	if bytes := block.Bytes(b); bytes != b.End-b.PC {
		t.Fatalf("P11.1: Bytes of %+v: %d", b, bytes)
	}
	if !block.Same(b, want) {
		t.Fatalf("P11.1: Same of %+v and its like", b)
	}
	return b, err == api.OK
}

// goes: what Next tells of a last instruction at place, with end behind it, by sets.
func goes(i api.Instr, place, end uint32) []uint32 {
	set := map[uint32]int{end: 0}
	to := place + 4 + i.Imm
	switch i.Op {
	case api.B:
		if i.Cond == al {
			set = map[uint32]int{}
		}
		set[to] = 0
	case api.Cbz, api.Cbnz, api.Bl:
		set[to] = 0
	case api.Bx:
		if i.Cond == al {
			return nil
		}
	case api.Ldm:
		if i.Cond == al && i.List/(1<<15)%2 == 1 {
			return nil
		}
	case api.Bkpt, api.Undefined, api.Unpredictable:
		return nil
	}
	var l []uint32
	for a := range set {
		l = append(l, a)
	}
	slices.Sort(l)
	return l
}
