package thumb_test

import (
	"math"
	"math/rand"
	"strings"
	"testing"

	"sourdine/api"
	"sourdine/thumb"
)

const al = api.Always

// bad: what Undefined and Unpredictable look like.
func bad(op int, h uint16) api.Instr { return api.Instr{Op: op, Cond: al, Imm: uint32(h)} }

// row: a line of the chapter's table: its bits, and what they say. f: the fields by their letters, all bits of one letter together.
type row struct {
	bits string
	what func(f map[rune]int, in bool) api.Instr
}

func wrong(op int) api.Instr { return api.Instr{Op: op} }

var (
	unpredictable = wrong(api.Unpredictable)
	undefined     = wrong(api.Undefined)
)

// fixed: the bits of a pattern that are fixed, and what they are.
func fixed(pattern string) (mask, want uint16) {
	for at, c := range pattern {
		if c == '0' || c == '1' {
			mask |= 1 << (15 - at)
			want |= uint16(c-'0') << (15 - at)
		}
	}
	return mask, want
}

// fields: the bits of h by the letters of a pattern.
func fields(pattern string, h uint16) map[rune]int {
	f := map[rune]int{}
	for at, c := range pattern {
		f[c] = f[c]<<1 | int(h>>(15-at)&1)
	}
	return f
}

// num: op D d, N n, UseImm v.
func num(op, d, n, v int, s bool) api.Instr {
	return api.Instr{Op: op, Cond: al, D: d, N: n, Imm: uint32(v), UseImm: true, S: s}
}

func regs(op, d, n, m int, s bool) api.Instr {
	return api.Instr{Op: op, Cond: al, D: d, N: n, M: m, S: s}
}

func plain(op, v int) api.Instr { return api.Instr{Op: op, Cond: al, Imm: uint32(v)} }

// signed: v of so many bits, times 2.
func signed(v, size int) uint32 {
	if v >= 1<<(size-1) {
		v -= 1 << size
	}
	return uint32(2 * v)
}

func count(v int) int {
	n := 0
	for ; v != 0; v &= v - 1 {
		n++
	}
	return n
}

// mem5, un, moved, compared, jump: forms that several rows share.
func mem5(op, scale int) func(map[rune]int, bool) api.Instr {
	return func(f map[rune]int, _ bool) api.Instr { return num(op, f['d'], f['n'], scale*f['i'], false) }
}

func un(op int) func(map[rune]int, bool) api.Instr {
	return func(f map[rune]int, _ bool) api.Instr { return regs(op, f['d'], 0, f['m'], false) }
}

func moved(op int) func(map[rune]int, bool) api.Instr {
	return func(f map[rune]int, in bool) api.Instr {
		v := f['i']
		if v == 0 {
			v = 32
		}
		return num(op, f['d'], f['m'], v, !in)
	}
}

func compared(op int) func(map[rune]int, bool) api.Instr {
	return func(f map[rune]int, in bool) api.Instr {
		if in {
			return unpredictable
		}
		return api.Instr{Op: op, Cond: al, N: f['n'], Imm: uint32(f['i'] * 2)}
	}
}

func jump(op int) func(map[rune]int, bool) api.Instr {
	return func(f map[rune]int, _ bool) api.Instr {
		if f['x'] != 0 || f['m'] == 15 {
			return unpredictable
		}
		return regs(op, 0, 0, f['m'], false)
	}
}

// rows: the chapter's table, line by line.
func rows() []row {
	return []row{
		{"00000 iiiii mmm ddd", func(f map[rune]int, in bool) api.Instr {
			switch {
			case f['i'] != 0:
				return num(api.Lsl, f['d'], f['m'], f['i'], !in)
			case in:
				return unpredictable
			}
			return regs(api.Mov, f['d'], 0, f['m'], true)
		}},
		{"00001 iiiii mmm ddd", moved(api.Lsr)},
		{"00010 iiiii mmm ddd", moved(api.Asr)},
		{"0001100 mmm nnn ddd", func(f map[rune]int, in bool) api.Instr { return regs(api.Add, f['d'], f['n'], f['m'], !in) }},
		{"0001101 mmm nnn ddd", func(f map[rune]int, in bool) api.Instr { return regs(api.Sub, f['d'], f['n'], f['m'], !in) }},
		{"0001110 iii nnn ddd", func(f map[rune]int, in bool) api.Instr { return num(api.Add, f['d'], f['n'], f['i'], !in) }},
		{"0001111 iii nnn ddd", func(f map[rune]int, in bool) api.Instr { return num(api.Sub, f['d'], f['n'], f['i'], !in) }},
		{"00100 ddd iiiiiiii", func(f map[rune]int, in bool) api.Instr { return num(api.Mov, f['d'], 0, f['i'], !in) }},
		{"00101 nnn iiiiiiii", func(f map[rune]int, in bool) api.Instr { return num(api.Cmp, 0, f['n'], f['i'], true) }},
		{"00110 ddd iiiiiiii", func(f map[rune]int, in bool) api.Instr { return num(api.Add, f['d'], f['d'], f['i'], !in) }},
		{"00111 ddd iiiiiiii", func(f map[rune]int, in bool) api.Instr { return num(api.Sub, f['d'], f['d'], f['i'], !in) }},
		{"010000 oooo mmm ddd", sixteen},
		{"01000100 D mmmm ddd", func(f map[rune]int, _ bool) api.Instr {
			d := f['D']*8 + f['d']
			if d == 15 || f['m'] == 15 {
				return unpredictable
			}
			return regs(api.Add, d, d, f['m'], false)
		}},
		{"01000101 N mmmm nnn", func(f map[rune]int, _ bool) api.Instr {
			n, m := f['N']*8+f['n'], f['m']
			if n == 15 || m == 15 || n < 8 && m < 8 {
				return unpredictable
			}
			return regs(api.Cmp, 0, n, m, true)
		}},
		{"01000110 D mmmm ddd", func(f map[rune]int, _ bool) api.Instr {
			d := f['D']*8 + f['d']
			if d == 15 || f['m'] == 15 {
				return unpredictable
			}
			return regs(api.Mov, d, 0, f['m'], false)
		}},
		{"010001110 mmmm xxx", jump(api.Bx)},
		{"010001111 mmmm xxx", jump(api.Blx)},
		{"01001 ddd iiiiiiii", func(f map[rune]int, _ bool) api.Instr { return num(api.Ldr, f['d'], 15, 4*f['i'], false) }},
		{"0101 ooo mmm nnn ddd", func(f map[rune]int, _ bool) api.Instr {
			op := []int{api.Str, api.Strh, api.Strb, api.Ldrsb, api.Ldr, api.Ldrh, api.Ldrb, api.Ldrsh}[f['o']]
			return regs(op, f['d'], f['n'], f['m'], false)
		}},
		{"01100 iiiii nnn ddd", mem5(api.Str, 4)}, {"01101 iiiii nnn ddd", mem5(api.Ldr, 4)},
		{"01110 iiiii nnn ddd", mem5(api.Strb, 1)}, {"01111 iiiii nnn ddd", mem5(api.Ldrb, 1)},
		{"10000 iiiii nnn ddd", mem5(api.Strh, 2)}, {"10001 iiiii nnn ddd", mem5(api.Ldrh, 2)},
		{"10010 ddd iiiiiiii", func(f map[rune]int, _ bool) api.Instr { return num(api.Str, f['d'], 13, 4*f['i'], false) }},
		{"10011 ddd iiiiiiii", func(f map[rune]int, _ bool) api.Instr { return num(api.Ldr, f['d'], 13, 4*f['i'], false) }},
		{"10100 ddd iiiiiiii", func(f map[rune]int, _ bool) api.Instr { return num(api.Adr, f['d'], 0, 4*f['i'], false) }},
		{"10101 ddd iiiiiiii", func(f map[rune]int, _ bool) api.Instr { return num(api.Add, f['d'], 13, 4*f['i'], false) }},
		{"101100000 iiiiiii", func(f map[rune]int, _ bool) api.Instr { return num(api.Add, 13, 13, 4*f['i'], false) }},
		{"101100001 iiiiiii", func(f map[rune]int, _ bool) api.Instr { return num(api.Sub, 13, 13, 4*f['i'], false) }},
		{"10110 0 i 1 iiiii nnn", compared(api.Cbz)}, {"10111 0 i 1 iiiii nnn", compared(api.Cbnz)},
		{"1011001000 mmm ddd", un(api.Sxth)}, {"1011001001 mmm ddd", un(api.Sxtb)},
		{"1011001010 mmm ddd", un(api.Uxth)}, {"1011001011 mmm ddd", un(api.Uxtb)},
		{"1011010 r llllllll", func(f map[rune]int, _ bool) api.Instr {
			if f['r'] == 0 && f['l'] == 0 {
				return unpredictable
			}
			return api.Instr{Op: api.Stm, Cond: al, N: 13, List: f['r']<<14 + f['l'], Down: true, Back: true}
		}},
		{"1011110 r llllllll", func(f map[rune]int, _ bool) api.Instr {
			if f['r'] == 0 && f['l'] == 0 {
				return unpredictable
			}
			return api.Instr{Op: api.Ldm, Cond: al, N: 13, List: f['r']<<15 + f['l'], Back: true}
		}},
		{"1011101000 mmm ddd", un(api.Rev)}, {"1011101001 mmm ddd", un(api.Rev16)}, {"1011101011 mmm ddd", un(api.Revsh)},
		{"10111110 iiiiiiii", func(f map[rune]int, _ bool) api.Instr { return plain(api.Bkpt, f['i']) }},
		{"10111111 cccc mmmm", func(f map[rune]int, in bool) api.Instr {
			c, m := f['c'], f['m']
			switch {
			case m == 0:
				return plain(api.Nop, c)
			case in || c == 15 || c == 14 && count(m) > 1:
				return unpredictable
			}
			return plain(api.It, 16*c+m)
		}},
		{"11000 nnn llllllll", func(f map[rune]int, _ bool) api.Instr {
			if f['l'] == 0 || f['l']>>f['n']&1 == 1 {
				return unpredictable
			}
			return api.Instr{Op: api.Stm, Cond: al, N: f['n'], List: f['l'], Back: true}
		}},
		{"11001 nnn llllllll", func(f map[rune]int, _ bool) api.Instr {
			if f['l'] == 0 {
				return unpredictable
			}
			return api.Instr{Op: api.Ldm, Cond: al, N: f['n'], List: f['l'], Back: f['l']>>f['n']&1 == 0}
		}},
		{"1101 cccc iiiiiiii", func(f map[rune]int, in bool) api.Instr {
			switch {
			case f['c'] == 14:
				return undefined
			case f['c'] == 15:
				return plain(api.Svc, f['i'])
			case in:
				return unpredictable
			}
			return api.Instr{Op: api.B, Cond: f['c'], Imm: signed(f['i'], 8)}
		}},
		{"11100 iiiiiiiiiii", func(f map[rune]int, _ bool) api.Instr {
			return api.Instr{Op: api.B, Cond: al, Imm: signed(f['i'], 11)}
		}},
	}
}

// sixteen: 010000 oooo.
func sixteen(f map[rune]int, in bool) api.Instr {
	d, m := f['d'], f['m']
	switch f['o'] {
	case 8:
		return regs(api.Tst, 0, d, m, true)
	case 9:
		return num(api.Rsb, d, m, 0, !in)
	case 10:
		return regs(api.Cmp, 0, d, m, true)
	case 11:
		return regs(api.Cmn, 0, d, m, true)
	case 13:
		return regs(api.Mul, d, m, d, !in)
	case 15:
		return regs(api.Mvn, d, 0, m, !in)
	}
	op := map[int]int{0: api.And, 1: api.Eor, 2: api.Lsl, 3: api.Lsr, 4: api.Asr, 5: api.Adc, 6: api.Sbc, 7: api.Ror, 12: api.Orr, 14: api.Bic}[f['o']]
	return regs(op, d, d, m, !in)
}

// meant: what the table says of each half.
func meant(t *testing.T, in bool) []api.Instr {
	t.Helper()
	all := make([]api.Instr, 1<<16)
	for _, r := range rows() {
		bits := strings.ReplaceAll(r.bits, " ", "")
		mask, want := fixed(bits)
		for h := range all {
			if uint16(h)&mask != want {
				continue
			}
			if all[h].Op != 0 {
				t.Fatalf("%04x is in two rows of the table", h)
			}
			all[h] = r.what(fields(bits, uint16(h)), in)
		}
	}
	for h, i := range all {
		switch i.Op {
		case 0, api.Undefined:
			all[h] = bad(api.Undefined, uint16(h))
		case api.Unpredictable:
			all[h] = bad(api.Unpredictable, uint16(h))
		}
	}
	return all
}

// TestAll: P8.1, each half, outside of an IT and within one, against the chapter's table.
func TestAll(t *testing.T) {
	for _, in := range []bool{false, true} {
		faults := 0
		for h, want := range meant(t, in) {
			got := thumb.Decode(uint16(h), in)
			if got == want {
				continue
			}
			t.Errorf("P8.1: Decode(%04x, %v): %+v, not %+v", h, in, got, want)
			if faults++; faults > 9 {
				t.FailNow()
			}
		}
	}
}

// TestWide: P8.1, each half.
func TestWide(t *testing.T) {
	for h := 0; h < 1<<16; h++ {
		five := h / 2048
		want := five == 0b11101 || five == 0b11110 || five == 0b11111
		if got := thumb.Wide(uint16(h)); got != want {
			t.Fatalf("P8.1: Wide(%04x): %v", h, got)
		}
		if i := thumb.Decode(uint16(h), false); want && i != bad(api.Undefined, uint16(h)) {
			t.Fatalf("P8.1: Decode(%04x), which is Wide: %+v", h, i)
		}
	}
}

// TestNamed: P8.1, the example and the edges that the chapter names, by hand.
func TestNamed(t *testing.T) {
	for _, x := range []struct {
		h    uint16
		in   bool
		want api.Instr
	}{
		{0x2005, false, num(api.Mov, 0, 0, 5, true)},
		{0x2005, true, num(api.Mov, 0, 0, 5, false)},
		{0x0000, false, regs(api.Mov, 0, 0, 0, true)},
		{0x0000, true, bad(api.Unpredictable, 0)},
		{0x0040, true, num(api.Lsl, 0, 0, 1, false)},
		{0x0800, false, num(api.Lsr, 0, 0, 32, true)},
		{0x1000, true, num(api.Asr, 0, 0, 32, false)},
		{0x42c0, true, regs(api.Cmn, 0, 0, 0, true)},
		{0x4280, true, regs(api.Cmp, 0, 0, 0, true)},
		{0x4200, true, regs(api.Tst, 0, 0, 0, true)},
		{0x453f, false, bad(api.Unpredictable, 0x453f)}, // both 7
		{0x4547, false, regs(api.Cmp, 0, 7, 8, true)},
		{0x45b8, false, regs(api.Cmp, 0, 8, 7, true)},
		{0x45f6, false, regs(api.Cmp, 0, 14, 14, true)},
		{0x4578, false, bad(api.Unpredictable, 0x4578)}, // M 15
		{0x4697, false, bad(api.Unpredictable, 0x4697)}, // D 15
		{0x47f0, true, regs(api.Blx, 0, 0, 14, false)},
		{0x47f8, false, bad(api.Unpredictable, 0x47f8)},
		{0x4701, false, bad(api.Unpredictable, 0x4701)},
		{0x4fff, false, num(api.Ldr, 7, 15, 1020, false)},
		{0xb07f, false, num(api.Add, 13, 13, 508, false)},
		{0xb0ff, false, num(api.Sub, 13, 13, 508, false)},
		{0xb300, false, api.Instr{Op: api.Cbz, Cond: al, Imm: 64}},
		{0xb9f8, false, api.Instr{Op: api.Cbnz, Cond: al, Imm: 62}},
		{0xb9f8, true, bad(api.Unpredictable, 0xb9f8)},
		{0xb500, false, api.Instr{Op: api.Stm, Cond: al, N: 13, List: 1 << 14, Back: true, Down: true}},
		{0xbd00, false, api.Instr{Op: api.Ldm, Cond: al, N: 13, List: 1 << 15, Back: true}},
		{0xb400, false, bad(api.Unpredictable, 0xb400)},
		{0xbc00, true, bad(api.Unpredictable, 0xbc00)},
		{0xba80, false, bad(api.Undefined, 0xba80)},
		{0xbeff, false, plain(api.Bkpt, 255)},
		{0xbff0, true, plain(api.Nop, 15)},
		{0xbf01, false, plain(api.It, 1)},
		{0xbf01, true, bad(api.Unpredictable, 0xbf01)},
		{0xbfe1, false, plain(api.It, 0xe1)},
		{0xbfe3, false, bad(api.Unpredictable, 0xbfe3)},
		{0xbff1, false, bad(api.Unpredictable, 0xbff1)},
		{0xc001, false, bad(api.Unpredictable, 0xc001)},
		{0xc801, false, api.Instr{Op: api.Ldm, Cond: al, List: 1}},
		{0xd080, false, api.Instr{Op: api.B, Imm: 1<<32 - 256}},
		{0xd07f, false, api.Instr{Op: api.B, Imm: 254}},
		{0xd07f, true, bad(api.Unpredictable, 0xd07f)},
		{0xdeff, true, bad(api.Undefined, 0xdeff)},
		{0xdfff, true, plain(api.Svc, 255)},
		{0xe400, true, api.Instr{Op: api.B, Cond: al, Imm: 1<<32 - 2048}},
		{0xe3ff, false, api.Instr{Op: api.B, Cond: al, Imm: 2046}},
		{0xe7ff, false, api.Instr{Op: api.B, Cond: al, Imm: 1<<32 - 2}},
		{0xe800, false, bad(api.Undefined, 0xe800)},
	} {
		if got := thumb.Decode(x.h, x.in); got != x.want {
			t.Errorf("P8.1: Decode(%04x, %v): %+v, not %+v", x.h, x.in, got, x.want)
		}
	}
}

// least: of each instruction that may be the least half that is it.
func least(t *testing.T, in bool) map[api.Instr]uint16 {
	t.Helper()
	all := map[api.Instr]uint16{}
	for h, i := range meant(t, in) {
		_, there := all[i]
		if i.Op != api.Undefined && i.Op != api.Unpredictable && !there {
			all[i] = uint16(h)
		}
	}
	return all
}

func encoded(t *testing.T, all map[api.Instr]uint16, i api.Instr, in bool) {
	t.Helper()
	want, there := all[i]
	if got, ok := thumb.Encode(i, in); got != want || ok != there {
		t.Fatalf("P8.2: Encode(%+v, %v): %04x %v, not %04x %v", i, in, got, ok, want, there)
	}
}

// TestWritten: P8.2 and P8.3, each instruction that is read, outside of an IT and within one, written either way.
func TestWritten(t *testing.T) {
	all := [2]map[api.Instr]uint16{least(t, false), least(t, true)}
	for h := 0; h < 1<<16; h++ {
		for w, in := range []bool{false, true} {
			i := thumb.Decode(uint16(h), in)
			encoded(t, all[w], i, in)
			encoded(t, all[1-w], i, !in)
			if got, ok := thumb.Encode(i, in); ok && thumb.Decode(got, in) != i {
				t.Fatalf("P8.3: %04x is read, and written as %04x", h, got)
			}
		}
	}
}

// spoil: i with one field that is another one.
func spoil(r *rand.Rand, i api.Instr) api.Instr {
	ints := []int{0, 1, 7, 8, 13, 14, 15, 16, 31, 32, 256, -1, -8, 1 << 16, math.MaxInt, math.MinInt}
	any := ints[r.Intn(len(ints))]
	flip := 1 << r.Intn(17)
	fields := []*int{&i.Op, &i.Cond, &i.D, &i.N, &i.M, &i.A, &i.Sh, &i.Amt, &i.List}
	bools := []*bool{&i.Wide, &i.S, &i.UseImm, &i.Back, &i.Down}
	at := r.Intn(len(fields) + len(bools) + 3)
	switch {
	case at >= len(fields)+len(bools):
		i.Imm += []uint32{1, 2, 4, 1 << 7, 1 << 31, 1<<32 - 4, uint32(flip), uint32(r.Intn(1 << 11))}[r.Intn(8)]
	case at >= len(fields):
		*bools[at-len(fields)] = !*bools[at-len(fields)]
	case r.Intn(2) == 0:
		*fields[at] ^= flip
	default:
		*fields[at] = any
	}
	return i
}

// TestSpoilt: P8.2, instructions that are nearly one that is read, and such as no half is.
func TestSpoilt(t *testing.T) {
	r := rand.New(rand.NewSource(8))
	all := [2]map[api.Instr]uint16{least(t, false), least(t, true)}
	for range 400000 {
		w := r.Intn(2)
		i := thumb.Decode(uint16(r.Intn(1<<16)), r.Intn(2) == 1)
		for range 1 + r.Intn(3) {
			i = spoil(r, i)
		}
		encoded(t, all[w], i, w == 1)
	}
	for _, i := range []api.Instr{
		{}, {Cond: al}, {Op: api.Ops, Cond: al}, {Op: -1}, {Op: math.MinInt, Cond: math.MaxInt},
		bad(api.Undefined, 0), bad(api.Undefined, 0xe800), bad(api.Unpredictable, 0xb400),
		regs(api.Mla, 0, 0, 0, false), regs(api.Clz, 0, 0, 0, false), plain(api.Bl, 0),
		{Op: api.Mov, Cond: al, UseImm: true, Imm: 5, S: true, Wide: true},
	} {
		encoded(t, all[0], i, false)
		encoded(t, all[1], i, true)
	}
}

// TestLeast: P8.2, of several halves the least one, by hand.
func TestLeast(t *testing.T) {
	for _, x := range []struct {
		i    api.Instr
		in   bool
		want uint16
		ok   bool
	}{
		{num(api.Add, 2, 2, 7, true), false, 0x1dd2, true},
		{num(api.Add, 2, 2, 8, true), false, 0x3208, true},
		{num(api.Sub, 2, 2, 0, false), true, 0x1e12, true},
		{regs(api.Add, 2, 2, 3, false), true, 0x18d2, true},
		{regs(api.Add, 2, 2, 3, false), false, 0x441a, true},
		{regs(api.Mov, 0, 0, 0, true), false, 0, true},
		{regs(api.Mov, 0, 0, 0, true), true, 0, false},
		{regs(api.Mov, 0, 0, 0, false), true, 0x4600, true},
		{api.Instr{Op: api.B, Cond: al}, false, 0xe000, true},
		{api.Instr{Op: api.B, Cond: 15}, false, 0, false},
	} {
		if got, ok := thumb.Encode(x.i, x.in); got != x.want || ok != x.ok {
			t.Errorf("P8.2: Encode(%+v, %v): %04x %v, not %04x %v", x.i, x.in, got, ok, x.want, x.ok)
		}
	}
}
