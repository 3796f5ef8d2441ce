package fetch_test

import (
	"slices"
	"testing"

	"sourdine/api"
	"sourdine/fetch"
	"sourdine/mem"
	"sourdine/thumb"
	"sourdine/wide"
)

const (
	al = api.Always
	at = 0x100 // where the code of these tests begins
)

// bytesOf: halves as they lie in memory.
func bytesOf(l ...uint16) []byte {
	var b []byte
	for _, h := range l {
		b = append(b, byte(h%256), byte(h/256))
	}
	return b
}

// ram: a region that may be written and run, but not read.
func ram(from, size uint32, b ...byte) api.Region {
	return api.Region{From: from, Len: size, Write: true, Exec: true, Bytes: b}
}

// made: memory of l, which must be a right list.
func made(t *testing.T, l ...api.Region) *mem.Mem {
	t.Helper()
	m, err := mem.New(l)
	if err != api.OK {
		t.Fatalf("New(%+v): %d", l, err)
	}
	return m
}

// room: memory for eight bytes of code.
func room(t *testing.T) *mem.Mem { return made(t, ram(at, 8)) }

// lay: puts halves at the beginning of the code.
func lay(t *testing.T, m *mem.Mem, l ...uint16) {
	t.Helper()
	for k, h := range l {
		if err := m.Store(at+2*uint32(k), 2, uint32(h)); err != api.OK {
			t.Fatalf("Store: %d", err)
		}
	}
}

// alone: what one half, or two, are, by the decoders.
func alone(in bool, l ...uint16) api.Instr {
	if len(l) == 2 {
		return wide.Decode(l[0], l[1], in)
	}
	return thumb.Decode(l[0], in)
}

// ends: whether an instruction has to be the last one within an IT.
func ends(i api.Instr) bool {
	switch i.Op {
	case api.B, api.Bl, api.Bx, api.Blx, api.Cbz, api.Cbnz, api.Svc, api.Bkpt:
		return true
	}
	return i.Op == api.Ldm && i.List >= 1<<15
}

// behindIt: the conditions that an IT with the number v in its lowest byte says.
func behindIt(v uint32) []int {
	first, mask := int(v/16), int(v%16)
	l := []int{first}
	for mask%8 != 0 {
		l = append(l, first/2*2+mask/8)
		mask = mask % 8 * 2
	}
	return l
}

// model: what At tells of one half, or two, with these conditions.
func model(conds []int, l ...uint16) (api.Instr, []int) {
	i := alone(len(conds) > 0, l...)
	if i.Op == api.It {
		return i, behindIt(i.Imm)
	}
	if len(conds) == 0 {
		return i, nil
	}
	rest := slices.Clone(conds[1:])
	if len(rest) > 0 && ends(i) {
		i = api.Instr{Op: api.Unpredictable, Cond: al, Imm: uint32(l[0])}
		if len(l) == 2 {
			i.Wide, i.Imm = true, i.Imm*65536+uint32(l[1])
		}
	}
	if i.Op != api.Undefined && i.Op != api.Unpredictable {
		i.Cond = (conds[0]%16 + 16) % 16
	}
	return i, rest
}

// holds: At at the beginning of the code, which has these halves, tells what the model does.
func holds(t *testing.T, m *mem.Mem, conds []int, l ...uint16) {
	t.Helper()
	lay(t, m, l...)
	want, left := model(conds, l...)
	i, rest, err := fetch.At(m, at, fetch.It{Conds: conds})
	if i != want || !slices.Equal(rest.Conds, left) || err != api.OK {
		t.Fatalf("P10.1: At of %x with %v: %+v, %v, %d, not %+v, %v", l, conds, i, rest, err, want, left)
	}
}

// its: conditions of all lengths that an IT gives, and a longer list.
func its() [][]int {
	return [][]int{nil, {}, {0}, {13}, {14}, {15}, {1, 0}, {14, 14}, {4, 5, 5}, {6, 6, 7, 6}, {9, 1, 2, 3, 4, 5}}
}

// book: of each instruction the least half that is it, outside of an IT and within one.
type book [2]map[api.Instr]uint16

func newBook() book {
	b := book{map[api.Instr]uint16{}, map[api.Instr]uint16{}}
	for h := 65535; h >= 0; h-- {
		if thumb.Wide(uint16(h)) {
			continue
		}
		for k := range b {
			b[k][thumb.Decode(uint16(h), k == 1)] = uint16(h)
		}
	}
	return b
}

// halves: i's own halves, whatever stands ahead of it.
func (b book) halves(i api.Instr, in bool) ([]uint16, bool) {
	if i.Op == api.Undefined || i.Op == api.Unpredictable {
		return nil, false
	}
	if i.Wide {
		h, k, ok := wide.Encode(i)
		return []uint16{h, k}, ok && wide.Decode(h, k, in) == i
	}
	k := 0
	if in {
		k = 1
	}
	h, ok := b[k][i]
	return []uint16{h}, ok
}

// put: what Put tells of l.
func (b book) put(l []api.Instr) ([]byte, bool) {
	var out []byte
	var conds []int
	for _, i := range l {
		bare := i
		if i.Op != api.B || len(conds) > 0 {
			bare.Cond = al
		}
		hs, ok := b.halves(bare, len(conds) > 0)
		if !ok {
			return nil, false
		}
		back, rest := model(conds, hs...)
		if back != i {
			return nil, false
		}
		out, conds = append(out, bytesOf(hs...)...), rest
	}
	return out, len(conds) == 0
}
