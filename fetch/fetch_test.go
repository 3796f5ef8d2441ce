package fetch_test

import (
	"bytes"
	"math"
	"math/rand"
	"slices"
	"testing"

	"sourdine/api"
	"sourdine/fetch"
	"sourdine/mem"
	"sourdine/thumb"
)

func TestAtNarrow(t *testing.T) {
	m := room(t)
	for h := range 65536 {
		if !thumb.Wide(uint16(h)) {
			for _, conds := range its() {
				holds(t, m, conds, uint16(h))
			}
		}
	}
}

// seconds: second halves that tell many of the wide instructions apart.
var seconds = []uint16{
	0, 5, 0x0180, 0x01ff, 0x1e05, 0x4003, 0x4123, 0x4006, 0x8000, 0x8007, 0x8010, 0xa000, 0xb801, 0x9801, 0xd000, 0xf801, 0xd801,
	0x0f00, 0x2004, 0x3012, 0xf103, 0xf083, 0xf093, 0xf0a3, 0xf0b3, 0xf1f2, 0xc004, 0xffff,
}

func TestAtWide(t *testing.T) {
	m := room(t)
	r := rand.New(rand.NewSource(10))
	for h := 0xe800; h < 65536; h++ {
		for _, k := range append([]uint16{uint16(r.Intn(65536))}, seconds...) {
			for _, conds := range [][]int{nil, {3}, {2, 3}} {
				holds(t, m, conds, uint16(h), k)
			}
		}
	}
}

// TestAtPlain: instructions written out, each with what stands behind.
func TestAtPlain(t *testing.T) {
	m := room(t)
	bad := func(v uint32) api.Instr { return api.Instr{Op: api.Unpredictable, Cond: al, Imm: v} }
	for k, x := range []struct {
		l     []uint16
		conds []int
		want  api.Instr
		left  []int
	}{
		{[]uint16{0x3107}, nil, api.Instr{Op: api.Add, Cond: al, D: 1, N: 1, Imm: 7, UseImm: true, S: true}, nil},
		{[]uint16{0x3107}, []int{5}, api.Instr{Op: api.Add, Cond: 5, D: 1, N: 1, Imm: 7, UseImm: true}, nil},
		{[]uint16{0x3107}, []int{14, 14}, api.Instr{Op: api.Add, Cond: al, D: 1, N: 1, Imm: 7, UseImm: true}, []int{14}},
		{[]uint16{0x2a00}, []int{0, 1}, api.Instr{Op: api.Cmp, N: 2, UseImm: true, S: true}, []int{1}},
		{[]uint16{0xf240, 0x0105}, []int{7}, api.Instr{Op: api.Mov, Wide: true, Cond: 7, D: 1, Imm: 5, UseImm: true, A: 2}, nil},
		{[]uint16{0xbf08}, nil, api.Instr{Op: api.It, Cond: al, Imm: 0x08}, []int{0}},
		{[]uint16{0xbf0d}, nil, api.Instr{Op: api.It, Cond: al, Imm: 0x0d}, []int{0, 1, 1, 0}},
		{[]uint16{0xbfd3}, nil, api.Instr{Op: api.It, Cond: al, Imm: 0xd3}, []int{13, 12, 12, 13}},
		{[]uint16{0xbfe8}, nil, api.Instr{Op: api.It, Cond: al, Imm: 0xe8}, []int{14}},
		{[]uint16{0xbfec}, nil, bad(0xbfec), nil},
		{[]uint16{0xbf08}, []int{4, 5}, bad(0xbf08), []int{5}},
		{[]uint16{0xbf10}, []int{4}, api.Instr{Op: api.Nop, Cond: 4, Imm: 1}, nil},
		{[]uint16{0xd001}, nil, api.Instr{Op: api.B, Imm: 2}, nil},
		{[]uint16{0xd001}, []int{4}, bad(0xd001), nil},
		{[]uint16{0xb108}, []int{4}, bad(0xb108), nil},
		{[]uint16{0xe001}, []int{4}, api.Instr{Op: api.B, Cond: 4, Imm: 2}, nil},
		{[]uint16{0xde05}, []int{4}, api.Instr{Op: api.Undefined, Cond: al, Imm: 0xde05}, nil},
		{[]uint16{0xf040, 0x8001}, []int{4}, api.Instr{Op: api.Unpredictable, Wide: true, Cond: al, Imm: 0xf0408001}, nil},
		{[]uint16{0xffff, 0x1234}, []int{4, 5}, api.Instr{Op: api.Undefined, Wide: true, Cond: al, Imm: 0xffff1234}, []int{5}},
	} {
		lay(t, m, x.l...)
		i, rest, err := fetch.At(m, at, fetch.It{Conds: x.conds})
		if i != x.want || !slices.Equal(rest.Conds, x.left) || err != api.OK {
			t.Errorf("P10.1: At %d: %+v, %v, %d, not %+v, %v", k, i, rest, err, x.want, x.left)
		}
	}
}

// TestAtEnds: what leaves the IT may be its last one alone, what doesn't may be any.
func TestAtEnds(t *testing.T) {
	m := room(t)
	for _, x := range []struct {
		l    []uint16
		op   int
		ends bool
	}{
		{[]uint16{0xe001}, api.B, true}, {[]uint16{0xf000, 0xb801}, api.B, true}, {[]uint16{0xf000, 0xf801}, api.Bl, true},
		{[]uint16{0x4718}, api.Bx, true}, {[]uint16{0x4798}, api.Blx, true},
		{[]uint16{0xbd00}, api.Ldm, true}, {[]uint16{0xbdff}, api.Ldm, true}, {[]uint16{0xbcff}, api.Ldm, false},
		{[]uint16{0xe891, 0x8001}, api.Ldm, true}, {[]uint16{0xe931, 0x8001}, api.Ldm, true}, {[]uint16{0xe891, 0x4001}, api.Ldm, false},
		{[]uint16{0xb5ff}, api.Stm, false}, {[]uint16{0xe881, 0x4001}, api.Stm, false}, {[]uint16{0xc903}, api.Ldm, false},
		{[]uint16{0xdf00}, api.Svc, true}, {[]uint16{0xdf02}, api.Svc, true}, {[]uint16{0xbe00}, api.Bkpt, true},
		{[]uint16{0xbf00}, api.Nop, false}, {[]uint16{0xbff0}, api.Nop, false}, {[]uint16{0x4800}, api.Ldr, false}, {[]uint16{0x46f7}, api.Unpredictable, false},
	} {
		lay(t, m, x.l...)
		i, rest, err := fetch.At(m, at, fetch.It{Conds: []int{8}})
		if i.Op != x.op || len(rest.Conds) != 0 || err != api.OK || i.Op != api.Unpredictable && i.Cond != 8 {
			t.Errorf("P10.1: %x, the last one: %+v, %v, %d", x.l, i, rest, err)
		}
		for _, left := range [][]int{{9}, {8, 9}, {9, 9, 8}} {
			i, rest, err := fetch.At(m, at, fetch.It{Conds: append([]int{8}, left...)})
			if !slices.Equal(rest.Conds, left) || err != api.OK || (i.Op == api.Unpredictable) != (x.ends || x.op == api.Unpredictable) {
				t.Errorf("P10.1: %x with %v behind it: %+v, %v, %d", x.l, left, i, rest, err)
			}
		}
	}
}

// TestAtCounts: conditions beyond 0 to 15 count modulo 16, upwards from below 0, too; those that are left stay as they are.
func TestAtCounts(t *testing.T) {
	m := room(t)
	lay(t, m, 0x2005)
	for c, want := range map[int]int{
		0: 0, 15: 15, 16: 0, 17: 1, 35: 3, 255: 15, 1 << 32: 0, 1<<32 + 9: 9, math.MaxInt: 15,
		-1: 15, -15: 1, -16: 0, -17: 15, math.MinInt: 0, math.MinInt + 6: 6,
	} {
		i, rest, err := fetch.At(m, at, fetch.It{Conds: []int{c, c, -1}})
		if i.Op != api.Mov || i.S || i.Cond != want || !slices.Equal(rest.Conds, []int{c, -1}) || err != api.OK {
			t.Errorf("P10.1: the condition %d: %+v, %v, %d", c, i, rest, err)
		}
	}
}

// TestAtErrors: where not all of an instruction may be run.
func TestAtErrors(t *testing.T) {
	narrow, first := []byte{5, 0x20, 6, 0x20}, []byte{5, 0x20, 0x40, 0xf2}
	deaf := api.Region{From: at + 4, Len: 4, Read: true, Write: true, Bytes: []byte{5, 0}}
	last := uint32(0xffffeffc)
	for k, x := range []struct {
		l    []api.Region
		a    uint32
		want api.Errno
	}{
		{nil, 0, api.ErrExec}, {nil, at, api.ErrExec},
		{[]api.Region{ram(at, 4, narrow...)}, at, api.OK}, {[]api.Region{ram(at, 4, narrow...)}, at + 2, api.OK},
		{[]api.Region{ram(at, 4, narrow...)}, at - 2, api.ErrExec}, {[]api.Region{ram(at, 4, narrow...)}, at + 4, api.ErrExec},
		{[]api.Region{ram(at, 4, narrow...)}, at + 1, api.ErrExec}, {[]api.Region{ram(at, 4, narrow...)}, at - 1, api.ErrExec},
		{[]api.Region{ram(at, 4, first...)}, at + 2, api.ErrExec},
		{[]api.Region{ram(at, 4, first...), ram(at+4, 4, 5, 0)}, at + 2, api.OK},
		{[]api.Region{ram(at, 4, first...), deaf}, at + 2, api.ErrExec},
		{[]api.Region{ram(at, 4, first...), ram(at+8, 4, 5, 0)}, at + 2, api.ErrExec},
		{[]api.Region{deaf}, at + 4, api.ErrExec},
		{[]api.Region{ram(last, 4, narrow...)}, last + 2, api.OK}, {[]api.Region{ram(last, 4, first...)}, last + 2, api.ErrExec},
		{[]api.Region{ram(0, 4, narrow...)}, 0xfffffffe, api.ErrExec}, {[]api.Region{ram(0, 4, narrow...)}, 0xffffffff, api.ErrExec},
	} {
		for _, conds := range [][]int{nil, {1}, {1, 2}} {
			i, rest, err := fetch.At(made(t, x.l...), x.a, fetch.It{Conds: conds})
			if err != x.want {
				t.Errorf("P10.1: At %d: %d, not %d", k, err, x.want)
			}
			if err != api.OK && (i != api.Instr{} || len(rest.Conds) != 0) {
				t.Errorf("P10.1: At %d: beside an error %+v, %v", k, i, rest)
			}
			if err == api.OK && i.Op != api.Mov {
				t.Errorf("P10.1: At %d: %+v", k, i)
			}
		}
	}
	for _, a := range []uint32{0, 1, 2, at, 0xfffffffe} {
		if i, rest, err := fetch.At(nil, a, fetch.It{Conds: []int{1, 2}}); i != (api.Instr{}) || len(rest.Conds) != 0 || err != api.ErrExec {
			t.Errorf("P10.1: At of no memory: %+v, %v, %d", i, rest, err)
		}
	}
}

// TestAtKeepsNothing: what is handed in stays as it is, and what is answered has no part in it.
func TestAtKeepsNothing(t *testing.T) {
	m := room(t)
	lay(t, m, 0x2005)
	all := []int{1, 2, 3, 4, 5, 6}
	_, rest, _ := fetch.At(m, at, fetch.It{Conds: all[:4]})
	for k := range rest.Conds {
		rest.Conds[k] = 99
	}
	_ = append(rest.Conds, 99)
	if !slices.Equal(all, []int{1, 2, 3, 4, 5, 6}) {
		t.Errorf("P10.1: what was handed in was changed: %v", all)
	}
	_, rest, _ = fetch.At(m, at, fetch.It{Conds: all})
	all[1] = 77
	if !slices.Equal(rest.Conds, []int{2, 3, 4, 5, 6}) {
		t.Errorf("P10.1: what was handed in is a part of the answer: %v", rest)
	}
	lay(t, m, 0xbf0d)
	_, one, _ := fetch.At(m, at, fetch.It{})
	one.Conds[0] = 55
	if _, two, _ := fetch.At(m, at, fetch.It{}); !slices.Equal(two.Conds, []int{0, 1, 1, 0}) {
		t.Errorf("P10.1: two answers share their conditions: %v", two)
	}
	then := m.Copy()
	_, _, _ = fetch.At(m, at, fetch.It{})
	if !m.Same(then) {
		t.Errorf("P10.1: At stored something")
	}
}

// readAll: the instructions that At tells of n bytes, one behind another.
func readAll(t *testing.T, m *mem.Mem, n int) []api.Instr {
	t.Helper()
	var l []api.Instr
	it := fetch.It{}
	for a := uint32(at); a < at+uint32(n); {
		i, rest, err := fetch.At(m, a, it)
		if err != api.OK {
			t.Fatalf("P10.3: At %d of %d bytes: %d", a, n, err)
		}
		l, it, a = append(l, i), rest, a+2
		if i.Wide {
			a += 2
		}
	}
	return l
}

// putHolds: Put tells what the book does, and At tells l again of its bytes.
func putHolds(t *testing.T, b book, l ...api.Instr) bool {
	t.Helper()
	then := slices.Clone(l)
	want, right := b.put(l)
	if !right {
		want = nil
	}
	got, ok := fetch.Put(l...)
	if ok != right || !bytes.Equal(got, want) {
		t.Fatalf("P10.2: Put of %+v: %x, %t, not %x, %t", l, got, ok, want, right)
	}
	if !slices.Equal(l, then) {
		t.Fatalf("P10.2: Put changed what it was handed: %+v, not %+v", l, then)
	}
	if ok {
		m := made(t, ram(at, uint32(len(got)+7)/4*4, got...))
		if back := readAll(t, m, len(got)); !slices.Equal(back, l) {
			t.Fatalf("P10.3: At of what Put wrote: %+v, not %+v", back, l)
		}
	}
	return ok
}

// it: the instruction IT with this number.
func it(v uint32) api.Instr { return api.Instr{Op: api.It, Cond: al, Imm: v} }

// TestPutEach: each instruction, outside of an IT, as its only one, and as the first one of two.
func TestPutEach(t *testing.T) {
	b, m := newBook(), room(t)
	nop := api.Instr{Op: api.Nop, Cond: 5}
	r := rand.New(rand.NewSource(11))
	written := [3]int{}
	count := func(where int, ok bool) {
		if ok {
			written[where]++
		}
	}
	for h := range 65536 {
		l := []uint16{uint16(h), uint16(r.Intn(65536))}
		if r.Intn(2) == 0 {
			l[1] = seconds[r.Intn(len(seconds))]
		}
		lay(t, m, l...)
		i, rest, _ := fetch.At(m, at, fetch.It{})
		count(0, len(rest.Conds) == 0 && putHolds(t, b, i))
		i, _, _ = fetch.At(m, at, fetch.It{Conds: []int{4}})
		count(1, putHolds(t, b, it(0x48), i))
		i, _, _ = fetch.At(m, at, fetch.It{Conds: []int{4, 5}})
		count(2, putHolds(t, b, it(0x4c), i, nop))
	}
	if written[0] < 30000 || written[1] < 30000 || written[2] < 30000 || written[1] <= written[2] {
		t.Errorf("P10.2: so few are written: %v", written)
	}
}

// TestPutIts: behind each IT there may be what it says, neither less nor another condition.
func TestPutIts(t *testing.T) {
	b := newBook()
	for v := range uint32(256) {
		l := []api.Instr{it(v)}
		first, ok := b[0][l[0]]
		if !ok {
			if putHolds(t, b, l...) {
				t.Errorf("P10.2: the IT %x, which there isn't, is written", v)
			}
			continue
		}
		if want := 0xbf00 + uint16(v); first != want {
			t.Fatalf("P10.2: the IT %x: %x", v, first)
		}
		for k, c := range behindIt(v) {
			if putHolds(t, b, l...) {
				t.Errorf("P10.2: the IT %x with %d behind it is written", v, k)
			}
			for other := -2; other <= 17; other++ {
				mov := api.Instr{Op: api.Mov, Cond: other, Imm: uint32(k), UseImm: true}
				if ok := putHolds(t, b, append(slices.Clone(l), mov)...); ok && other != c {
					t.Errorf("P10.2: the IT %x with the condition %d at %d is written", v, other, k)
				}
			}
			l = append(l, api.Instr{Op: api.Mov, Cond: c, Imm: uint32(k), UseImm: true})
		}
		nop := api.Instr{Op: api.Nop, Cond: al}
		if !putHolds(t, b, l...) || !putHolds(t, b, append(slices.Clone(l), nop)...) {
			t.Errorf("P10.2: the IT %x with all behind it isn't written", v)
		}
		nop.Cond = behindIt(v)[0]
		if putHolds(t, b, append(slices.Clone(l), nop)...) != (nop.Cond == al) {
			t.Errorf("P10.2: behind the IT %x a condition %d", v, nop.Cond)
		}
	}
}

// TestPutPlain: bytes written out.
func TestPutPlain(t *testing.T) {
	mov := api.Instr{Op: api.Mov, Cond: al, D: 1, Imm: 5, UseImm: true, S: true}
	for k, x := range []struct {
		l    []api.Instr
		want []byte
	}{
		{nil, nil}, {[]api.Instr{}, nil},
		{[]api.Instr{mov}, []byte{0x05, 0x21}},
		{[]api.Instr{{Op: api.Mov, Wide: true, Cond: al, D: 1, Imm: 0x1234, UseImm: true, A: 2}, mov}, []byte{0x41, 0xf2, 0x34, 0x21, 0x05, 0x21}},
		{[]api.Instr{{Op: api.B, Cond: al, Imm: 2}}, []byte{0x01, 0xe0}},
		{[]api.Instr{{Op: api.B, Cond: 0, Imm: 2}}, []byte{0x01, 0xd0}},
		{[]api.Instr{{Op: api.B, Cond: 13, Imm: 0xfffffffe}}, []byte{0xff, 0xdd}},
		{[]api.Instr{{Op: api.B, Wide: true, Cond: 13, Imm: 2}}, []byte{0x40, 0xf3, 0x01, 0x80}},
		{[]api.Instr{it(0xd8), {Op: api.B, Cond: 13, Imm: 2}}, []byte{0xd8, 0xbf, 0x01, 0xe0}},
		{[]api.Instr{it(0xd8), {Op: api.B, Wide: true, Cond: 13, Imm: 2}}, []byte{0xd8, 0xbf, 0x00, 0xf0, 0x01, 0xb8}},
		{[]api.Instr{it(0xe8), {Op: api.B, Cond: al, Imm: 2}}, []byte{0xe8, 0xbf, 0x01, 0xe0}},
		{[]api.Instr{it(0x14), {Op: api.Add, Cond: 1, D: 2, N: 3, M: 4}, {Op: api.Bx, Cond: 0, M: 14}}, []byte{0x14, 0xbf, 0x1a, 0x19, 0x70, 0x47}},
	} {
		if b, ok := fetch.Put(x.l...); !ok || !bytes.Equal(b, x.want) {
			t.Errorf("P10.2: Put %d: %x, %t, not %x", k, b, ok, x.want)
		}
	}
}

// TestPutWrong: one that can't be written is as wrong behind others, and ahead of them.
func TestPutWrong(t *testing.T) {
	mov := api.Instr{Op: api.Mov, Cond: al, D: 1, Imm: 5, UseImm: true, S: true}
	quiet := api.Instr{Op: api.Mov, Cond: 0, D: 1, Imm: 5, UseImm: true}
	for k, l := range [][]api.Instr{
		{{}}, {{Op: -1, Cond: al}}, {{Op: api.Ops, Cond: al}}, {{Op: math.MaxInt, Cond: math.MinInt, D: -1, List: -1}},
		{{Op: api.Undefined, Cond: al, Imm: 0xde00}}, {{Op: api.Unpredictable, Cond: al, Imm: 0xbfff}},
		{{Op: api.Undefined, Wide: true, Cond: al, Imm: 0xffffffff}}, {{Op: api.Unpredictable, Wide: true, Cond: al, Imm: 0xf0a201ff}},
		{quiet}, {{Op: api.Nop, Cond: 0}}, {{Op: api.Nop, Cond: 30}}, {{Op: api.Nop, Cond: -2}}, {{Op: api.Nop, Wide: true, Cond: al}},
		{{Op: api.B, Cond: 15, Imm: 2}}, {{Op: api.B, Cond: 16, Imm: 2}}, {{Op: api.B, Cond: -16, Imm: 2}}, {{Op: api.B, Cond: 30, Imm: 2}},
		{{Op: api.B, Cond: al, Imm: 3}}, {{Op: api.B, Cond: 0, Imm: 256}}, {{Op: api.B, Wide: true, Cond: 14, Imm: 1 << 24}}, {{Op: api.B, Wide: true, Cond: 15, Imm: 2}},
		{it(0x08)}, {it(0x0c), quiet}, {it(0x08), mov}, {it(0x18), quiet}, {it(0x00), quiet}, {it(0xf8), quiet}, {it(0xec), mov, mov}, {it(0x108), quiet},
		{it(0x08), {Op: api.It, Cond: 0, Imm: 0x08}}, {it(0x08), it(0x08), quiet},
		{it(0x04), {Op: api.B, Imm: 2}, quiet}, {it(0x04), {Op: api.B, Wide: true, Imm: 2}, quiet}, {it(0x04), {Op: api.Bl, Wide: true, Imm: 2}, quiet},
		{it(0x04), {Op: api.Bx, M: 1}, quiet}, {it(0x04), {Op: api.Blx, M: 1}, quiet}, {it(0x04), {Op: api.Svc}, quiet}, {it(0x04), {Op: api.Bkpt}, quiet},
		{it(0x04), {Op: api.Ldm, N: 13, List: 1 << 15, Back: true}, quiet}, {it(0x04), {Op: api.Unpredictable, Cond: al, Imm: 0xe001}, quiet},
		{it(0x08), {Op: api.B, Cond: al, Imm: 2}}, {it(0x08), {Op: api.Cbz, Imm: 2}}, {it(0x08), {Op: api.Cbnz, Imm: 2}},
		{it(0x08), {Op: api.Unpredictable, Cond: al, Imm: 0xd001}}, {it(0x08), {Op: api.Undefined, Cond: al, Imm: 0xde00}},
		{it(0x08), quiet, quiet}, {it(0x08), {Op: api.Mov, Cond: 16, D: 1, Imm: 5, UseImm: true}},
	} {
		for _, x := range [][]api.Instr{l, append([]api.Instr{mov, mov}, l...), append(slices.Clone(l), mov)} {
			if b, ok := fetch.Put(x...); ok || len(b) != 0 {
				t.Errorf("P10.2: Put of wrong list %d: %x, %t", k, b, ok)
			}
		}
	}
}

// spoil: l with a field of one of its instructions turned to something else, or with one too few, or one twice.
func spoil(r *rand.Rand, l []api.Instr) []api.Instr {
	place := r.Intn(len(l))
	i := &l[place]
	switch r.Intn(16) {
	case 0:
		i.Op = r.Intn(api.Ops + 1)
	case 1:
		i.Wide = !i.Wide
	case 2:
		i.S = !i.S
	case 3:
		i.Cond = r.Intn(18) - 1
	case 4:
		i.D += r.Intn(33) - 16
	case 5:
		i.N ^= 1 << r.Intn(5)
	case 6:
		i.M ^= 1 << r.Intn(5)
	case 7:
		i.A ^= 1 << r.Intn(5)
	case 8:
		i.Imm ^= 1 << r.Intn(32)
	case 9:
		i.UseImm = !i.UseImm
	case 10:
		i.Sh ^= 1
	case 11:
		i.Amt ^= 1 << r.Intn(6)
	case 12:
		i.List ^= 1 << r.Intn(17)
	case 13:
		i.Back = !i.Back
	case 14:
		i.Down = !i.Down
	case 15:
		if r.Intn(2) == 0 {
			return slices.Insert(l, place, l[place])
		}
		return slices.Delete(l, place, place+1)
	}
	return l
}

// program: what At tells of halves at random, as far as it may be written.
func program(t *testing.T, r *rand.Rand, b book, m *mem.Mem) []api.Instr {
	t.Helper()
	var l []api.Instr
	it := fetch.It{}
	for n := r.Intn(20); n > 0 || len(it.Conds) > 0; {
		h := uint16(r.Intn(65536))
		if r.Intn(4) == 0 {
			h = 0xbf00 + uint16(r.Intn(256))
		}
		lay(t, m, h, uint16(r.Intn(65536)))
		i, rest, err := fetch.At(m, at, it)
		if err != api.OK {
			t.Fatalf("P10.1: At: %d", err)
		}
		if i.Op == api.Undefined || i.Op == api.Unpredictable {
			continue
		}
		l, it, n = append(l, i), rest, n-1
	}
	return l
}

// TestPutPrograms: what At tells is written, so that At tells it again, and what is spoilt is written only where it still may be.
func TestPutPrograms(t *testing.T) {
	b, m := newBook(), room(t)
	r := rand.New(rand.NewSource(12))
	refused := 0
	for range 3000 {
		l := program(t, r, b, m)
		if !putHolds(t, b, l...) {
			t.Fatalf("P10.3: what is there isn't written: %+v", l)
		}
		for range 5 {
			if len(l) > 0 && !putHolds(t, b, spoil(r, slices.Clone(l))...) {
				refused++
			}
		}
	}
	if refused < 1000 {
		t.Errorf("P10.2: so few of the spoilt are refused: %d", refused)
	}
}
