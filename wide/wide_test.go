package wide_test

import (
	"math"
	"math/rand"
	"strings"
	"testing"

	"sourdine/api"
	"sourdine/wide"
	"sourdine/word"
)

const al = api.Always

// bad: what Undefined and Unpredictable look like.
func bad(op int, w uint32) api.Instr {
	return api.Instr{Op: op, Wide: true, Cond: al, Imm: w}
}

func decode(w uint32, in bool) api.Instr { return wide.Decode(uint16(w>>16), uint16(w), in) }

// row: a line of the chapter's table: its bits, and what they say.
type row struct {
	bits       string
	what       func(f fields) api.Instr
	mask, want uint32
}

// fields: a word, and the pattern by whose letters its bits are asked for.
type fields struct {
	bits string
	w    uint32
}

// of: all bits of one letter together.
func (f fields) of(letter byte) int {
	v := 0
	for at := range 32 {
		if f.bits[at] == letter {
			v = v<<1 | int(f.w>>(31-at)&1)
		}
	}
	return v
}

var (
	undefined     = api.Instr{Op: api.Undefined}
	unpredictable = api.Instr{Op: api.Unpredictable}
)

// or: i, unless something is wrong.
func or(wrong bool, i api.Instr) api.Instr {
	if wrong {
		return unpredictable
	}
	i.Wide = true
	if i.Op != api.B {
		i.Cond = al
	}
	return i
}

// odd: whether one of these is 13 or 15.
func odd(l ...int) bool {
	for _, r := range l {
		if r == 13 || r == 15 {
			return true
		}
	}
	return false
}

// ops: the first two rows' o.
var ops = map[int]int{
	0: api.And, 1: api.Bic, 2: api.Orr, 3: api.Orn, 4: api.Eor,
	8: api.Add, 10: api.Adc, 11: api.Sbc, 13: api.Sub, 14: api.Rsb,
}

// data: the first two rows, i: what their second is; stack: 13 may be where the chapter says so.
func data(f fields, i api.Instr, wrong, stack bool) api.Instr {
	o, d, n, s := f.of('o'), f.of('d'), f.of('n'), f.of('s') == 1
	op, there := ops[o]
	if !there {
		return undefined
	}
	i.Op, i.D, i.N, i.S = op, d, n, s
	oddD, oddN := odd(d), odd(n)
	switch o {
	case 0, 4, 8, 13:
		if d == 15 && s {
			i.Op = map[int]int{0: api.Tst, 4: api.Teq, 8: api.Cmn, 13: api.Cmp}[o]
			i.D, oddD = 0, false
		}
		if stack && n == 13 && (o == 8 || o == 13) {
			oddN = false
			oddD = oddD && d != 13
		}
	case 2, 3:
		if n == 15 {
			i.Op = map[int]int{2: api.Mov, 3: api.Mvn}[o]
			i.N, oddN = 0, false
		}
	}
	return or(wrong || oddD || oddN, i)
}

func modified(f fields) api.Instr {
	imm12 := uint32(f.of('i'))
	v, c0, ok := word.Expand(imm12, false)
	_, c1, _ := word.Expand(imm12, true)
	i := api.Instr{UseImm: true, Imm: v}
	if c0 == c1 {
		i.A = 1
	}
	return data(f, i, !ok, true)
}

func shifted(f fields) api.Instr {
	v, i := f.of('i'), api.Instr{M: f.of('m')}
	switch t := f.of('t'); {
	case t == 0 && v == 0:
	case t == 0:
		i.Sh, i.Amt = api.ShLsl, v
	case t == 3 && v == 0:
		i.Sh, i.Amt = api.ShRrx, 1
	case t == 3:
		i.Sh, i.Amt = api.ShRor, v
	default:
		i.Sh, i.Amt = []int{0, api.ShLsr, api.ShAsr}[t], v
		if v == 0 {
			i.Amt = 32
		}
	}
	return data(f, i, odd(i.M), false)
}

func twelve(op int) func(fields) api.Instr {
	return func(f fields) api.Instr {
		d, n := f.of('d'), f.of('n')
		wrong := n == 15 || d == 15 || d == 13 && n != 13
		return or(wrong, api.Instr{Op: op, D: d, N: n, UseImm: true, Imm: uint32(f.of('i')), A: 2})
	}
}

// sixteen: j stands behind the single i, but is above it.
func sixteen(f fields) uint32 { return uint32(f.of('j')<<12 | f.of('i')) }

func bits(op int) func(fields) api.Instr {
	return func(f fields) api.Instr {
		d, n, i, many := f.of('d'), f.of('n'), f.of('i'), f.of('w')+1
		wrong := odd(d, n) || i+many > 32
		if op == api.Bfi {
			many -= i
			wrong = odd(d) || n == 13 || many < 1
		}
		return or(wrong, api.Instr{Op: op, D: d, N: n, Imm: uint32(i + 32*many)})
	}
}

// signed: v of so many bits.
func signed(v, size int) uint32 {
	if v >= 1<<(size-1) {
		v -= 1 << size
	}
	return uint32(v)
}

func far(op int) func(fields) api.Instr {
	return func(f fields) api.Instr {
		s, p, q := f.of('s'), f.of('p'), f.of('q')
		v := s
		for _, b := range []int{p, q} {
			v *= 2
			if b == s {
				v++
			}
		}
		i := or(false, api.Instr{Op: op, Imm: signed(v<<22|f.of('i')<<1, 25)})
		i.Cond = al
		return i
	}
}

// three: d, n, m.
func three(op int) func(fields) api.Instr {
	return func(f fields) api.Instr {
		d, n, m := f.of('d'), f.of('n'), f.of('m')
		return or(odd(d, n, m), api.Instr{Op: op, D: d, N: n, M: m, S: f.of('s') == 1})
	}
}

// one: d, m; what k stands for is m once more, if it is there.
func one(op int) func(fields) api.Instr {
	return func(f fields) api.Instr {
		d, m := f.of('d'), f.of('m')
		again := strings.ContainsRune(f.bits, 'k') && f.of('k') != m
		return or(odd(d, m) || again, api.Instr{Op: op, D: d, M: m})
	}
}

func sum(op int) func(fields) api.Instr {
	return func(f fields) api.Instr {
		d, n, m, a := f.of('d'), f.of('n'), f.of('m'), f.of('a')
		if op == api.Mla && a == 15 {
			return or(odd(d, n, m), api.Instr{Op: api.Mul, D: d, N: n, M: m})
		}
		return or(odd(d, n, m, a), api.Instr{Op: op, D: d, N: n, M: m, A: a})
	}
}

func long(op int) func(fields) api.Instr {
	return func(f fields) api.Instr {
		l, h, n, m := f.of('l'), f.of('h'), f.of('n'), f.of('m')
		return or(odd(l, h, n, m) || l == h, api.Instr{Op: op, D: l, A: h, N: n, M: m})
	}
}

// memOp: by g, z, l; 0 of none.
func memOp(f fields) int {
	switch f.of('g')*100 + f.of('l')*10 + f.of('z') {
	case 0:
		return api.Strb
	case 1:
		return api.Strh
	case 2:
		return api.Str
	case 10:
		return api.Ldrb
	case 11:
		return api.Ldrh
	case 12:
		return api.Ldr
	case 110:
		return api.Ldrsb
	case 111:
		return api.Ldrsh
	}
	return 0
}

func memory(byReg bool) func(fields) api.Instr {
	return func(f fields) api.Instr {
		op, d, n := memOp(f), f.of('d'), f.of('n')
		if op == 0 || n == 15 {
			return undefined
		}
		if byReg {
			m := f.of('m')
			return or(odd(d, m), api.Instr{Op: op, D: d, N: n, M: m, Amt: f.of('j')})
		}
		return or(odd(d), api.Instr{Op: op, D: d, N: n, UseImm: true, Imm: uint32(f.of('i'))})
	}
}

func literal(f fields) api.Instr {
	f2 := fields{strings.Replace(f.bits, "zz1", "zzl", 1), f.w}
	op, d, v := memOp(f2), f.of('d'), uint32(f.of('i'))
	if op == 0 {
		return undefined
	}
	up := f.of('u') == 1
	wrong := odd(d) || !up && v == 0
	if !up {
		v = 0 - v
	}
	return or(wrong, api.Instr{Op: op, D: d, N: 15, UseImm: true, Imm: v})
}

func many(op int, down bool) func(fields) api.Instr {
	return func(f fields) api.Instr {
		n, r, w := f.of('n'), f.of('r'), f.of('w') == 1
		has := func(b int) bool { return r>>b&1 == 1 }
		count := 0
		for b := range 16 {
			if has(b) {
				count++
			}
		}
		wrong := n == 15 || has(13) || count < 2 || op == api.Stm && has(15) ||
			op == api.Ldm && has(14) && has(15) || w && has(n)
		return or(wrong, api.Instr{Op: op, N: n, List: r, Back: w, Down: down})
	}
}

// rows: the chapter's table, line by line; a word is in the first that it fits.
func rows() []row {
	all := []row{
		{bits: "11110 i 0 oooo s nnnn 0 iii dddd iiiiiiii", what: modified},
		{bits: "1110101 oooo s nnnn 0 iii dddd ii tt mmmm", what: shifted},
		{bits: "11110 i 1 00000 nnnn 0 iii dddd iiiiiiii", what: twelve(api.Add)},
		{bits: "11110 i 1 01010 nnnn 0 iii dddd iiiiiiii", what: twelve(api.Sub)},
		{bits: "11110 i 1 00100 jjjj 0 iii dddd iiiiiiii", what: func(f fields) api.Instr {
			return or(odd(f.of('d')), api.Instr{Op: api.Mov, D: f.of('d'), UseImm: true, Imm: sixteen(f), A: 2})
		}},
		{bits: "11110 i 1 01100 jjjj 0 iii dddd iiiiiiii", what: func(f fields) api.Instr {
			return or(odd(f.of('d')), api.Instr{Op: api.Movt, D: f.of('d'), Imm: sixteen(f)})
		}},
		{bits: "11110 0 1 10100 nnnn 0 iii dddd ii 0 wwwww", what: bits(api.Sbfx)},
		{bits: "11110 0 1 11100 nnnn 0 iii dddd ii 0 wwwww", what: bits(api.Ubfx)},
		{bits: "11110 0 1 10110 nnnn 0 iii dddd ii 0 wwwww", what: bits(api.Bfi)},
		{bits: "11110 s cccc iiiiii 10 p 0 q iiiiiiiiiii", what: func(f fields) api.Instr {
			if f.of('c') >= 14 {
				return undefined
			}
			v := f.of('s')<<19 | f.of('q')<<18 | f.of('p')<<17 | f.of('i')
			return or(false, api.Instr{Op: api.B, Cond: f.of('c'), Imm: signed(2*v, 21)})
		}},
		{bits: "11110 s iiiiiiiiii 10 p 1 q iiiiiiiiiii", what: far(api.B)},
		{bits: "11110 s iiiiiiiiii 11 p 1 q iiiiiiiiiii", what: far(api.Bl)},
		{bits: "111110100 00 s nnnn 1111 dddd 0000 mmmm", what: three(api.Lsl)},
		{bits: "111110100 01 s nnnn 1111 dddd 0000 mmmm", what: three(api.Lsr)},
		{bits: "111110100 10 s nnnn 1111 dddd 0000 mmmm", what: three(api.Asr)},
		{bits: "111110100 11 s nnnn 1111 dddd 0000 mmmm", what: three(api.Ror)},
		{bits: "11111010 0000 1111 1111 dddd 1000 mmmm", what: one(api.Sxth)},
		{bits: "11111010 0001 1111 1111 dddd 1000 mmmm", what: one(api.Uxth)},
		{bits: "11111010 0100 1111 1111 dddd 1000 mmmm", what: one(api.Sxtb)},
		{bits: "11111010 0101 1111 1111 dddd 1000 mmmm", what: one(api.Uxtb)},
		{bits: "111110101001 kkkk 1111 dddd 1000 mmmm", what: one(api.Rev)},
		{bits: "111110101001 kkkk 1111 dddd 1001 mmmm", what: one(api.Rev16)},
		{bits: "111110101001 kkkk 1111 dddd 1010 mmmm", what: one(api.Rbit)},
		{bits: "111110101001 kkkk 1111 dddd 1011 mmmm", what: one(api.Revsh)},
		{bits: "111110101011 kkkk 1111 dddd 1000 mmmm", what: one(api.Clz)},
		{bits: "111110110000 nnnn aaaa dddd 0000 mmmm", what: sum(api.Mla)},
		{bits: "111110110000 nnnn aaaa dddd 0001 mmmm", what: sum(api.Mls)},
		{bits: "111110111000 nnnn llll hhhh 0000 mmmm", what: long(api.Smull)},
		{bits: "111110111010 nnnn llll hhhh 0000 mmmm", what: long(api.Umull)},
		{bits: "111110111100 nnnn llll hhhh 0000 mmmm", what: long(api.Smlal)},
		{bits: "111110111110 nnnn llll hhhh 0000 mmmm", what: long(api.Umlal)},
		{bits: "111110111001 nnnn 1111 dddd 1111 mmmm", what: three(api.Sdiv)},
		{bits: "111110111011 nnnn 1111 dddd 1111 mmmm", what: three(api.Udiv)},
		{bits: "1111100 g u zz1 1111 dddd iiiiiiiiiiii", what: literal},
		{bits: "1111100 g 1 zz l nnnn dddd iiiiiiiiiiii", what: memory(false)},
		{bits: "1111100 g 0 zz l nnnn dddd 000000 jj mmmm", what: memory(true)},
		{bits: "111010001 0 w 1 nnnn rrrrrrrrrrrrrrrr", what: many(api.Ldm, false)},
		{bits: "111010010 0 w 1 nnnn rrrrrrrrrrrrrrrr", what: many(api.Ldm, true)},
		{bits: "111010001 0 w 0 nnnn rrrrrrrrrrrrrrrr", what: many(api.Stm, false)},
		{bits: "111010010 0 w 0 nnnn rrrrrrrrrrrrrrrr", what: many(api.Stm, true)},
	}
	for k := range all {
		r := &all[k]
		r.bits = strings.ReplaceAll(r.bits, " ", "")
		for at, c := range r.bits {
			if c == '0' || c == '1' {
				r.mask |= 1 << (31 - at)
				r.want |= uint32(c-'0') << (31 - at)
			}
		}
	}
	return all
}

// meant: what the table says of w.
func meant(table []row, w uint32, in bool) api.Instr {
	i := undefined
	for k := range table {
		if r := &table[k]; w&r.mask == r.want {
			i = r.what(fields{r.bits, w})
			break
		}
	}
	switch {
	case i.Op == api.Undefined, i.Op == api.Unpredictable:
		return bad(i.Op, w)
	case in && i.Op == api.B && i.Cond != al:
		return bad(api.Unpredictable, w)
	}
	return i
}

// hold: P9.1 to P9.4, of one word.
func hold(t *testing.T, table []row, w uint32) {
	t.Helper()
	want := meant(table, w, false)
	if got := decode(w, false); got != want {
		t.Fatalf("P9.1: Decode(%08x, false): %+v, not %+v", w, got, want)
	}
	if got, in := decode(w, true), meant(table, w, true); got != in {
		t.Fatalf("P9.1: Decode(%08x, true): %+v, not %+v", w, got, in)
	}
	h, k, ok := wide.Encode(want)
	if want.Op == api.Undefined || want.Op == api.Unpredictable {
		if ok || h|k != 0 {
			t.Fatalf("P9.3: Encode(%+v): %04x %04x %v", want, h, k, ok)
		}
		return
	}
	if !ok || uint32(h)<<16|uint32(k) != w {
		t.Fatalf("P9.4: Encode of what %08x is: %04x %04x %v", w, h, k, ok)
	}
}

// TestTable: the rows that the tests lean on: each of 32 bits, and none within another one but the loads by their place.
func TestTable(t *testing.T) {
	table := rows()
	for k, a := range table {
		if len(a.bits) != 32 {
			t.Errorf("%s has %d bits", a.bits, len(a.bits))
		}
		for _, b := range table[:k] {
			if (a.want^b.want)&a.mask&b.mask == 0 && !strings.Contains(b.bits, "u") {
				t.Errorf("%s and %s meet", a.bits, b.bits)
			}
		}
	}
}

// TestFirst: each first half, with second halves that meet all rows.
func TestFirst(t *testing.T) {
	table := rows()
	r := rand.New(rand.NewSource(9))
	seconds := []uint32{
		0, 0xffff, 0x8000, 0x9000, 0xb800, 0xc000, 0xd000, 0xe800, 0xf800, 0x0100, 0x0d00, 0x0f00, 0x0d03, 0x7fff,
		0xf103, 0xf113, 0xf183, 0xf193, 0xf1a3, 0xf1b3, 0xf1f3, 0x4103, 0x4113, 0x1003, 0x1043, 0x0006, 0x4001, 0x8001, 0xc001,
	}
	for h := range uint32(1 << 16) {
		for _, k := range seconds {
			hold(t, table, h<<16|k)
		}
		for range 8 {
			hold(t, table, h<<16|uint32(r.Intn(1<<16)))
		}
	}
}

// TestSecond: each second half, with first halves of all rows and between them.
func TestSecond(t *testing.T) {
	table := rows()
	firsts := []uint32{0x0000, 0xe7ff, 0xec00, 0xfc00, 0xffff, 0xf3a2, 0xf382, 0xf3c0, 0xf7c2, 0xe8d2, 0xe812, 0xe992, 0xf8e2, 0xf982, 0xf9d2, 0xfa2f}
	for _, row := range table {
		for _, n := range []uint32{2, 13, 15} {
			firsts = append(firsts, row.want>>16|n&^(row.mask>>16))
		}
	}
	for _, h := range firsts {
		for k := range uint32(1 << 16) {
			hold(t, table, h<<16|k)
		}
	}
}

// TestRows: words of each row, with registers at the edges, and next to it.
func TestRows(t *testing.T) {
	table := rows()
	r := rand.New(rand.NewSource(90))
	edges := []uint32{0, 1, 12, 13, 14, 15}
	for _, row := range table {
		for range 6000 {
			w := r.Uint32()
			for _, at := range []int{0, 8, 12, 16} {
				if r.Intn(2) == 0 {
					w = w&^(15<<at) | edges[r.Intn(len(edges))]<<at
				}
			}
			if r.Intn(4) == 0 {
				// Where m stands twice, n is m.
				w = w&^(15<<16) | w&15<<16
			}
			w = w&^row.mask | row.want
			hold(t, table, w)
			hold(t, table, w^1<<r.Intn(32))
		}
	}
}

// TestNamed: the example and the edges that the chapter names, by hand.
func TestNamed(t *testing.T) {
	for _, x := range []struct {
		w    uint32
		in   bool
		want api.Instr
	}{
		{0xf2400005, false, api.Instr{Op: api.Mov, Imm: 5, UseImm: true, A: 2}},
		{0xf2400005, true, api.Instr{Op: api.Mov, Imm: 5, UseImm: true, A: 2}},
		{0xf6cf70ff, false, api.Instr{Op: api.Movt, Imm: 0xffff}},
		{0xf04f3000, false, unpredictable},                                                       // Expand refuses it
		{0xf0a01000, false, undefined},                                                           // so it would, but there is no such o
		{0xf04f30ff, false, api.Instr{Op: api.Mov, Imm: 0xffffffff, UseImm: true}},               // no carry is said
		{0xf05f4000, true, api.Instr{Op: api.Mov, Imm: 0x80000000, UseImm: true, A: 1, S: true}}, // of S whatever in is
		{0xf0d201ff, false, undefined},                                                           // o 6
		{0xf11d0d01, false, api.Instr{Op: api.Add, D: 13, N: 13, Imm: 1, UseImm: true, S: true}}, // of 13 and 13
		{0xf11d0f01, false, api.Instr{Op: api.Cmn, N: 13, Imm: 1, UseImm: true, S: true}},        // of 13, without D
		{0xf10d0f01, false, unpredictable},                                                       // D 15 without S
		{0xf1bf0f01, false, unpredictable},                                                       // Cmp of N 15
		{0xf15d0001, false, unpredictable},                                                       // Adc of N 13
		{0xf06f0f01, false, unpredictable},                                                       // Mvn of D 15
		{0xf06d0001, false, unpredictable},                                                       // Orn of N 13
		{0xf2ad0f01, false, unpredictable},                                                       // Sub of D 15
		{0xf2ad0dff, false, api.Instr{Op: api.Sub, D: 13, N: 13, Imm: 255, UseImm: true, A: 2}},  // of 13 and 13
		{0xf2020d01, false, unpredictable},                                                       // D 13 alone
		{0xea5f0030, false, api.Instr{Op: api.Mov, Sh: api.ShRrx, Amt: 1, S: true}},              // by the carry
		{0xea4f0070, false, api.Instr{Op: api.Mov, Sh: api.ShRor, Amt: 1}},                       // by 1
		{0xea5f70f0, false, api.Instr{Op: api.Mov, Sh: api.ShRor, Amt: 31, S: true}},             // by 31
		{0xea4f000d, false, unpredictable},                                                       // M 13
		{0xea900f01, false, api.Instr{Op: api.Teq, M: 1, S: true}},                               // no D
		{0xea800f01, false, unpredictable},                                                       // D 15 without S
		{0xf340001f, false, api.Instr{Op: api.Sbfx, Imm: 32 * 32}},                               // all bits
		{0xf340005f, false, unpredictable},                                                       // 33 bits
		{0xf3c070df, false, unpredictable},                                                       // 63 bits
		{0xf3c070c0, false, api.Instr{Op: api.Ubfx, Imm: 31 + 32}},                               // the last bit
		{0xf36070df, false, api.Instr{Op: api.Bfi, Imm: 31 + 32}},                                // the last bit
		{0xf36070de, false, unpredictable},                                                       // no bit
		{0xf36f0000, false, api.Instr{Op: api.Bfi, N: 15, Imm: 32}},                              // of none
		{0xf34f0000, false, unpredictable},                                                       // Sbfx has one
		{0xf3400020, false, undefined},                                                           // a bit that isn't 0
		{0xf7400000, false, undefined},                                                           // another one
		{0xf43fafff, false, api.Instr{Op: api.B, Imm: 1<<32 - 2}},                                // backwards
		{0xf43fafff, true, unpredictable},                                                        // within an IT
		{0xf3bfafff, true, undefined},                                                            // there is no such one
		{0xf380a000, true, undefined},                                                            // nor this one
		{0xf7ffbfff, true, api.Instr{Op: api.B, Cond: al, Imm: 1<<32 - 2}},                       // within an IT
		{0xf3ff97ff, false, api.Instr{Op: api.B, Cond: al, Imm: 1<<24 - 2}},                      // forwards, as far as there is
		{0xf4009000, false, api.Instr{Op: api.B, Cond: al, Imm: 0xff000000}},                     // backwards, as far as there is
		{0xf400d000, false, api.Instr{Op: api.Bl, Imm: 0xff000000}},                              // backwards, as far as there is
		{0xf000c000, false, undefined},                                                           // to other instructions
		{0xfa0ff080, false, api.Instr{Op: api.Sxth}},                                             // of none
		{0xfa0ef180, false, undefined},                                                           // N isn't 15
		{0xfa0ff1c0, false, undefined},                                                           // turned
		{0xfa9df18d, false, unpredictable},                                                       // M 13
		{0xfab0f181, false, unpredictable},                                                       // M twice, unlike
		{0xfb00f0f0, false, undefined},                                                           // no product
		{0xfb00f000, false, api.Instr{Op: api.Mul}},                                              // A 15
		{0xfb00d000, false, unpredictable},                                                       // A 13
		{0xfb00f010, false, unpredictable},                                                       // Mls has one
		{0xfba00000, false, unpredictable},                                                       // both 0
		{0xfb900000, false, undefined},                                                           // no quotient
		{0xf8cf0004, false, undefined},                                                           // a store by its place
		{0xf8cfd004, false, undefined},                                                           // and with D 13
		{0xf8ffd004, false, undefined},                                                           // z 3
		{0xf9df0000, false, undefined},                                                           // z 2 with a sign
		{0xf81f0000, false, unpredictable},                                                       // downwards by 0
		{0xf81f0fff, false, api.Instr{Op: api.Ldrb, N: 15, UseImm: true, Imm: 1<<32 - 4095}},     // downwards
		{0xf89f0fff, false, api.Instr{Op: api.Ldrb, N: 15, UseImm: true, Imm: 4095}},             // upwards
		{0xf85f0c00, false, api.Instr{Op: api.Ldr, N: 15, UseImm: true, Imm: 1<<32 - 3072}},      // ahead of the row by M
		{0xf85d0030, false, api.Instr{Op: api.Ldr, N: 13, Amt: 3}},                               // N 13
		{0xf8400840, false, undefined},                                                           // a bit that isn't 0
		{0xf840000f, false, unpredictable},                                                       // M 15
		{0xe88d0003, false, api.Instr{Op: api.Stm, N: 13, List: 3}},                              // N 13
		{0xe890c000, false, unpredictable},                                                       // 14 and 15
		{0xe8904001, false, api.Instr{Op: api.Ldm, List: 0x4001}},                                // 14
		{0xe8900003, false, api.Instr{Op: api.Ldm, List: 3}},                                     // N in List
		{0xe8b00003, false, unpredictable},                                                       // and Back
		{0xe8a00003, false, unpredictable},                                                       // of Stm, too
		{0xe9300006, false, api.Instr{Op: api.Ldm, List: 6, Back: true, Down: true}},             // downwards
		{0xe9000006, false, api.Instr{Op: api.Stm, List: 6, Down: true}},                         // downwards
		{0xe8108000, false, undefined},                                                           // neither up nor down
		{0x20050000, false, undefined},                                                           // a narrow one
		{0xefffffff, true, undefined},                                                            // none
	} {
		want := x.want
		switch want.Op {
		case api.Undefined, api.Unpredictable:
			want = bad(want.Op, x.w)
		case api.B:
			want.Wide = true
		default:
			want.Wide, want.Cond = true, al
		}
		if got := decode(x.w, x.in); got != want {
			t.Errorf("P9.1: Decode(%08x, %v): %+v, not %+v", x.w, x.in, got, want)
		}
	}
}

// spoil: i with one field that is another one.
func spoil(r *rand.Rand, i api.Instr) api.Instr {
	ints := []int{0, 1, 2, 7, 8, 13, 14, 15, 16, 17, 31, 32, 33, 256, -1, -8, 1 << 16, 1 << 32, math.MaxInt, math.MinInt}
	sums := []uint32{1, 2, 32, 1 << 12, 1 << 16, 1 << 21, 1 << 25, 1 << 31, 1<<32 - 4, 1 << r.Intn(32), r.Uint32()}
	numbers := []*int{&i.Op, &i.Cond, &i.D, &i.N, &i.M, &i.A, &i.Sh, &i.Amt, &i.List}
	bools := []*bool{&i.Wide, &i.S, &i.UseImm, &i.Back, &i.Down}
	at := r.Intn(len(numbers) + len(bools) + 3)
	switch {
	case at >= len(numbers)+len(bools):
		i.Imm += sums[r.Intn(len(sums))]
	case at >= len(numbers):
		*bools[at-len(numbers)] = !*bools[at-len(numbers)]
	case r.Intn(2) == 0:
		*numbers[at] ^= 1 << r.Intn(17)
	default:
		*numbers[at] = ints[r.Intn(len(ints))]
	}
	return i
}

// TestSpoilt: P9.3, what is nearly an instruction that is read: it is written as it is, or not.
func TestSpoilt(t *testing.T) {
	table := rows()
	r := rand.New(rand.NewSource(99))
	written := 0
	for range 300000 {
		row := table[r.Intn(len(table))]
		i := decode(r.Uint32()&^row.mask|row.want, false)
		for range 1 + r.Intn(3) {
			i = spoil(r, i)
		}
		h, k, ok := wide.Encode(i)
		w := uint32(h)<<16 | uint32(k)
		switch {
		case !ok && w != 0:
			t.Fatalf("P9.3: Encode(%+v): %08x beside false", i, w)
		case ok && (meant(table, w, false) != i || i.Op == api.Undefined || i.Op == api.Unpredictable):
			t.Fatalf("P9.3: Encode(%+v): %08x, which is %+v", i, w, meant(table, w, false))
		case ok:
			written++
		}
	}
	if written == 0 {
		t.Error("nothing was written")
	}
}

// TestNone: P9.3, what no two halves are.
func TestNone(t *testing.T) {
	for _, i := range []api.Instr{
		{}, {Cond: al}, {Wide: true, Cond: al}, {Op: -1, Wide: true, Cond: al}, {Op: api.Ops, Wide: true, Cond: al},
		{Op: math.MinInt, Wide: true, Cond: math.MaxInt, D: -1, N: math.MinInt, List: -1, Amt: math.MinInt},
		bad(api.Undefined, 0), bad(api.Undefined, 0xec000000), bad(api.Unpredictable, 0), bad(api.Unpredictable, 0xf8d2d004),
		{Op: api.Mov, Cond: al, Imm: 5, UseImm: true, A: 2},
		{Op: api.Mov, Wide: true, Cond: al, Imm: 1 << 16, UseImm: true, A: 2},
		{Op: api.Mov, Wide: true, Cond: al, Imm: 5, UseImm: true, A: 2, S: true},
		{Op: api.Mov, Wide: true, Cond: al, Imm: 5, UseImm: true, A: 1},
		{Op: api.Mov, Wide: true, Cond: al, Imm: 0x101, UseImm: true},
		{Op: api.Mov, Wide: true, Cond: 0, Imm: 5, UseImm: true},
		{Op: api.And, Wide: true, Cond: al, D: 15, S: true},
		{Op: api.Tst, Wide: true, Cond: al, D: 15, S: true},
		{Op: api.Tst, Wide: true, Cond: al},
		{Op: api.Orr, Wide: true, Cond: al, N: 15},
		{Op: api.Mov, Wide: true, Cond: al, N: 15},
		{Op: api.Add, Wide: true, Cond: al, D: 16},
		{Op: api.Add, Wide: true, Cond: al, Sh: api.ShLsl},
		{Op: api.Add, Wide: true, Cond: al, Sh: api.ShLsl, Amt: 32},
		{Op: api.Add, Wide: true, Cond: al, Sh: api.ShLsr, Amt: 33},
		{Op: api.Add, Wide: true, Cond: al, Sh: api.ShRrx},
		{Op: api.Add, Wide: true, Cond: al, Sh: api.ShRrx + 1},
		{Op: api.Lsl, Wide: true, Cond: al, UseImm: true, Imm: 1},
		{Op: api.Adr, Wide: true, Cond: al, UseImm: true, Imm: 4},
		{Op: api.Mul, Wide: true, Cond: al, S: true},
		{Op: api.Mla, Wide: true, Cond: al, A: 15},
		{Op: api.Ubfx, Wide: true, Cond: al, Imm: 5},
		{Op: api.Bfi, Wide: true, Cond: al, Imm: 16 + 32*17},
		{Op: api.Ldr, Wide: true, Cond: al, Imm: 1<<32 - 4, UseImm: true},
		{Op: api.Ldr, Wide: true, Cond: al, N: 15, Imm: 1<<32 - 4096, UseImm: true},
		{Op: api.Ldr, Wide: true, Cond: al, N: 15},
		{Op: api.Str, Wide: true, Cond: al, N: 15, UseImm: true},
		{Op: api.Ldr, Wide: true, Cond: al, Amt: 4},
		{Op: api.Stm, Wide: true, Cond: al, List: 1 << 15},
		{Op: api.Stm, Wide: true, Cond: al, List: 1<<16 | 6},
		{Op: api.B, Wide: true, Cond: 15, Imm: 4},
		{Op: api.B, Wide: true, Cond: 0, Imm: 1 << 20},
		{Op: api.B, Wide: true, Cond: al, Imm: 3},
		{Op: api.Bl, Wide: true, Cond: 0, Imm: 4},
		{Op: api.Bx, Wide: true, Cond: al}, {Op: api.Blx, Wide: true, Cond: al}, {Op: api.Cbz, Wide: true, Cond: al},
		{Op: api.It, Wide: true, Cond: al, Imm: 8}, {Op: api.Nop, Wide: true, Cond: al}, {Op: api.Svc, Wide: true, Cond: al},
	} {
		if h, k, ok := wide.Encode(i); ok || h|k != 0 {
			t.Errorf("P9.3: Encode(%+v): %04x %04x %v", i, h, k, ok)
		}
	}
}
