package inst_test

import (
	"fmt"
	"math"
	"math/rand"
	"slices"
	"testing"

	"sourdine/api"
	"sourdine/inst"
)

// what the document says of each instruction, written out once more. takes and gives have a letter for each of D, N, M, A, L (the List), 2 (M unless UseImm), 0, e (14), p (15); gives also B (N of Back).
type what struct {
	name         string
	op           int
	class        int
	takes, gives string
	flags        string // "all", "nz", "nzc", "nz+c", "" of none
}

var all = []what{
	{"and", api.And, inst.ClassData, "N2", "D", "nz+c"},
	{"eor", api.Eor, inst.ClassData, "N2", "D", "nz+c"},
	{"sub", api.Sub, inst.ClassData, "N2", "D", "all"},
	{"rsb", api.Rsb, inst.ClassData, "N2", "D", "all"},
	{"add", api.Add, inst.ClassData, "N2", "D", "all"},
	{"adc", api.Adc, inst.ClassData, "N2", "D", "all"},
	{"sbc", api.Sbc, inst.ClassData, "N2", "D", "all"},
	{"tst", api.Tst, inst.ClassData, "N2", "", "nz+c"},
	{"teq", api.Teq, inst.ClassData, "N2", "", "nz+c"},
	{"cmp", api.Cmp, inst.ClassData, "N2", "", "all"},
	{"cmn", api.Cmn, inst.ClassData, "N2", "", "all"},
	{"orr", api.Orr, inst.ClassData, "N2", "D", "nz+c"},
	{"mov", api.Mov, inst.ClassData, "2", "D", "nz+c"},
	{"bic", api.Bic, inst.ClassData, "N2", "D", "nz+c"},
	{"mvn", api.Mvn, inst.ClassData, "2", "D", "nz+c"},
	{"orn", api.Orn, inst.ClassData, "N2", "D", "nz+c"},
	{"lsl", api.Lsl, inst.ClassData, "N2", "D", "nzc"},
	{"lsr", api.Lsr, inst.ClassData, "N2", "D", "nzc"},
	{"asr", api.Asr, inst.ClassData, "N2", "D", "nzc"},
	{"ror", api.Ror, inst.ClassData, "N2", "D", "nzc"},
	{"mul", api.Mul, inst.ClassLong, "NM", "D", "nz"},
	{"mla", api.Mla, inst.ClassLong, "NMA", "D", ""},
	{"mls", api.Mls, inst.ClassLong, "NMA", "D", ""},
	{"umull", api.Umull, inst.ClassLong, "NM", "DA", ""},
	{"smull", api.Smull, inst.ClassLong, "NM", "DA", ""},
	{"umlal", api.Umlal, inst.ClassLong, "NMDA", "DA", ""},
	{"smlal", api.Smlal, inst.ClassLong, "NMDA", "DA", ""},
	{"udiv", api.Udiv, inst.ClassLong, "NM", "D", ""},
	{"sdiv", api.Sdiv, inst.ClassLong, "NM", "D", ""},
	{"movt", api.Movt, inst.ClassUnary, "D", "D", ""},
	{"ubfx", api.Ubfx, inst.ClassUnary, "N", "D", ""},
	{"sbfx", api.Sbfx, inst.ClassUnary, "N", "D", ""},
	{"bfi", api.Bfi, inst.ClassUnary, "DN", "D", ""},
	{"clz", api.Clz, inst.ClassUnary, "M", "D", ""},
	{"rbit", api.Rbit, inst.ClassUnary, "M", "D", ""},
	{"rev", api.Rev, inst.ClassUnary, "M", "D", ""},
	{"rev16", api.Rev16, inst.ClassUnary, "M", "D", ""},
	{"revsh", api.Revsh, inst.ClassUnary, "M", "D", ""},
	{"sxtb", api.Sxtb, inst.ClassUnary, "M", "D", ""},
	{"sxth", api.Sxth, inst.ClassUnary, "M", "D", ""},
	{"uxtb", api.Uxtb, inst.ClassUnary, "M", "D", ""},
	{"uxth", api.Uxth, inst.ClassUnary, "M", "D", ""},
	{"adr", api.Adr, inst.ClassData, "", "D", ""},
	{"ldr", api.Ldr, inst.ClassMemory, "N2", "D", ""},
	{"ldrb", api.Ldrb, inst.ClassMemory, "N2", "D", ""},
	{"ldrh", api.Ldrh, inst.ClassMemory, "N2", "D", ""},
	{"ldrsb", api.Ldrsb, inst.ClassMemory, "N2", "D", ""},
	{"ldrsh", api.Ldrsh, inst.ClassMemory, "N2", "D", ""},
	{"str", api.Str, inst.ClassMemory, "N2D", "", ""},
	{"strb", api.Strb, inst.ClassMemory, "N2D", "", ""},
	{"strh", api.Strh, inst.ClassMemory, "N2D", "", ""},
	{"ldm", api.Ldm, inst.ClassMany, "N", "LB", ""},
	{"stm", api.Stm, inst.ClassMany, "NL", "B", ""},
	{"b", api.B, inst.ClassBranch, "", "p", ""},
	{"bl", api.Bl, inst.ClassBranch, "", "ep", ""},
	{"bx", api.Bx, inst.ClassBranch, "M", "p", ""},
	{"blx", api.Blx, inst.ClassBranch, "M", "ep", ""},
	{"cbz", api.Cbz, inst.ClassBranch, "N", "p", ""},
	{"cbnz", api.Cbnz, inst.ClassBranch, "N", "p", ""},
	{"it", api.It, inst.ClassOther, "", "", ""},
	{"nop", api.Nop, inst.ClassOther, "", "", ""},
	{"svc", api.Svc, inst.ClassOther, "0", "0", ""},
	{"bkpt", api.Bkpt, inst.ClassOther, "", "", ""},
	{"undefined", api.Undefined, inst.ClassOther, "", "", ""},
	{"unpredictable", api.Unpredictable, inst.ClassOther, "", "", ""},
}

// none: numbers that are no instruction's.
var none = []int{0, -1, -2, api.Ops, api.Ops + 1, 255, 256 + api.Add, 1<<32 + api.Add, math.MaxInt, math.MinInt}

func TestNamesAndClasses(t *testing.T) {
	if len(all) != api.Ops-1 {
		t.Fatalf("P7.1: %d instructions, not %d", len(all), api.Ops-1)
	}
	for k, w := range all {
		if w.op != k+1 {
			t.Errorf("P7.1: %s is %d, not %d", w.name, w.op, k+1)
		}
		if g := inst.Name(w.op); g != w.name {
			t.Errorf("P7.1: Name of %s: %q", w.name, g)
		}
		if g := inst.Class(w.op); g != w.class {
			t.Errorf("P7.1: Class of %s: %d, not %d", w.name, g, w.class)
		}
	}
	for _, o := range none {
		if g := inst.Name(o); g != "" {
			t.Errorf("P7.1: Name of %d: %q", o, g)
		}
		if g := inst.Class(o); g != inst.ClassNone {
			t.Errorf("P7.1: Class of %d: %d", o, g)
		}
	}
	classes := []int{inst.ClassNone, inst.ClassData, inst.ClassLong, inst.ClassUnary, inst.ClassMemory, inst.ClassMany, inst.ClassBranch, inst.ClassOther}
	for k, c := range classes {
		if c != k {
			t.Errorf("P7.1: class %d is %d", k, c)
		}
	}
}

func TestSize(t *testing.T) {
	for o := -1; o <= api.Ops; o++ {
		if g := inst.Size(api.Instr{Op: o}); g != 2 {
			t.Errorf("P7.1: Size of a narrow %d: %d", o, g)
		}
		if g := inst.Size(api.Instr{Op: o, Wide: true, S: true, UseImm: true}); g != 4 {
			t.Errorf("P7.1: Size of a wide %d: %d", o, g)
		}
	}
}

// told: the registers of a text of letters, as a set of bits.
func told(letters string, i api.Instr) int {
	set := 0
	for _, c := range letters {
		switch c {
		case 'D':
			set |= 1 << i.D
		case 'N':
			set |= 1 << i.N
		case 'M':
			set |= 1 << i.M
		case 'A':
			set |= 1 << i.A
		case '2':
			if !i.UseImm {
				set |= 1 << i.M
			}
		case 'L':
			set |= i.List
		case 'B':
			if i.Back {
				set |= 1 << i.N
			}
		case '0':
			set |= 1
		case 'e':
			set |= 1 << 14
		case 'p':
			set |= 1 << 15
		}
	}
	return set
}

// list: the numbers of a set's bits, rising.
func list(set int) []int {
	var l []int
	for r := range 16 {
		if set&(1<<r) != 0 {
			l = append(l, r)
		}
	}
	return l
}

func (w what) reads(i api.Instr) []int {
	set := told(w.takes, i)
	if i.Cond != api.Always {
		set |= told(w.gives, i)
	}
	return list(set &^ (1 << 15))
}

func (w what) branches(i api.Instr) bool {
	return w.class == inst.ClassBranch || w.name == "ldm" && i.List&0x8000 != 0
}

func (w what) writes(i api.Instr) []int {
	set := told(w.gives, i)
	if !w.branches(i) {
		set &^= 1 << 15
	}
	return list(set)
}

func (w what) sets(i api.Instr) int {
	four := slices.Contains([]string{"tst", "teq", "cmp", "cmn"}, w.name)
	if !i.S && !four {
		return 0
	}
	switch w.flags {
	case "all":
		return 15
	case "nz":
		return 12
	case "nzc":
		return 14
	case "nz+c":
		if i.UseImm && i.A == 1 || !i.UseImm && i.Sh != api.ShNone {
			return 14
		}
		return 12
	}
	return 0
}

func (w what) uses(i api.Instr) bool {
	byRegister := w.flags == "nzc" && !i.UseImm && i.S
	return i.Cond != api.Always || w.name == "adc" || w.name == "sbc" || i.Sh == api.ShRrx || byRegister
}

// check: all that is told of one instruction.
func (w what) check(t *testing.T, i api.Instr) {
	t.Helper()
	if g, want := inst.Reads(i), w.reads(i); !slices.Equal(g, want) {
		t.Fatalf("P7.3: Reads of %s %+v: %v, not %v", w.name, i, g, want)
	}
	if g, want := inst.Writes(i), w.writes(i); !slices.Equal(g, want) {
		t.Fatalf("P7.3: Writes of %s %+v: %v, not %v", w.name, i, g, want)
	}
	if g, want := inst.Sets(i), w.sets(i); g != want {
		t.Fatalf("P7.3: Sets of %s %+v: %d, not %d", w.name, i, g, want)
	}
	if g, want := inst.Uses(i), w.uses(i); g != want {
		t.Fatalf("P7.3: Uses of %s %+v: %v", w.name, i, g)
	}
	if g, want := inst.Branches(i), w.branches(i); g != want {
		t.Fatalf("P7.3: Branches of %s %+v: %v", w.name, i, g)
	}
	if g, want := inst.Loads(i), w.name[:1] == "l" && w.name[1] == 'd'; g != want {
		t.Fatalf("P7.3: Loads of %s: %v", w.name, g)
	}
	if g, want := inst.Stores(i), w.name[:1] == "s" && w.name[1] == 't'; g != want {
		t.Fatalf("P7.3: Stores of %s: %v", w.name, g)
	}
}

// shapes: each instruction in all the ways that it can be told in, its registers left out.
func shapes(w what) []api.Instr {
	conds := []int{api.Always, 0, 1, 8, 13}
	var out []api.Instr
	for _, c := range conds {
		i := api.Instr{Op: w.op, Cond: c}
		switch {
		case w.name == "adr":
			i.UseImm = true
			out = append(out, i)
		case w.class == inst.ClassData:
			four := w.gives == ""
			for _, s := range []bool{false, true} {
				if four && !s {
					continue
				}
				i.S = s
				out = append(out, seconds(w, i)...)
			}
		case w.name == "mul":
			out = append(out, i)
			i.S = true
			out = append(out, i)
		case w.class == inst.ClassMemory:
			for amt := range 4 {
				i.Amt = amt
				out = append(out, i)
			}
			i.Amt, i.UseImm = 0, true
			out = append(out, i)
		case w.class == inst.ClassMany:
			for k := range 4 {
				i.Back, i.Down = k&1 != 0, k&2 != 0
				out = append(out, i)
			}
		default:
			out = append(out, i)
		}
	}
	return out
}

// seconds: i with each kind of second that one of Data can have.
func seconds(w what, i api.Instr) []api.Instr {
	var out []api.Instr
	by := w.flags == "nzc"
	for a := range 3 {
		if by && a > 0 {
			break
		}
		i.UseImm, i.A = true, a
		out = append(out, i)
	}
	i.UseImm, i.A = false, 0
	for sh := api.ShNone; sh <= api.ShRrx; sh++ {
		if by && sh > api.ShNone {
			break
		}
		i.Sh = sh
		out = append(out, i)
	}
	return out
}

// taken: the letters of the registers that stand in an instruction's own fields.
func taken(w what, i api.Instr) string {
	s := ""
	for _, c := range w.takes + w.gives {
		switch {
		case c == '2' && !i.UseImm:
			s += "M"
		case c == 'B':
			s += "N"
		case c == 'D', c == 'N', c == 'M', c == 'A':
			s += string(c)
		}
	}
	return s
}

// fill: i with registers by pick in the fields that it has.
func fill(w what, i api.Instr, pick func(c rune) int) api.Instr {
	for _, c := range taken(w, i) {
		switch c {
		case 'D':
			i.D = pick(c)
		case 'N':
			i.N = pick(c)
		case 'M':
			i.M = pick(c)
		case 'A':
			i.A = pick(c)
		}
	}
	return i
}

func TestTakesAndGives(t *testing.T) {
	rnd := rand.New(rand.NewSource(7))
	for _, w := range all {
		for _, shape := range shapes(w) {
			for range 60 {
				i := fill(w, shape, func(rune) int { return rnd.Intn(15) })
				if w.class == inst.ClassMany {
					i.List = rnd.Intn(1 << 16)
					if w.name == "stm" {
						i.List &^= 1 << 15
					}
				}
				i.Wide = rnd.Intn(2) == 0
				i.Imm = rnd.Uint32()
				w.check(t, i)
			}
		}
	}
}

func TestAlike(t *testing.T) {
	for _, w := range all {
		for _, shape := range shapes(w) {
			for r := range 15 {
				i := fill(w, shape, func(rune) int { return r })
				if w.class == inst.ClassMany {
					i.List = 1 << r
				}
				w.check(t, i)
			}
		}
	}
}

func TestPlaceRegister(t *testing.T) {
	rows := []struct {
		i             api.Instr
		reads, writes string
	}{
		{api.Instr{Op: api.Add, D: 1, N: 15, UseImm: true, Cond: api.Always}, "[]", "[1]"},
		{api.Instr{Op: api.Mov, D: 1, M: 15, Cond: api.Always}, "[]", "[1]"},
		{api.Instr{Op: api.Bfi, D: 3, N: 15, Imm: 64, Cond: api.Always}, "[3]", "[3]"},
		{api.Instr{Op: api.Ldr, D: 4, N: 15, UseImm: true, Cond: api.Always}, "[]", "[4]"},
		{api.Instr{Op: api.Ldr, D: 4, N: 15, UseImm: true, Cond: 0}, "[4]", "[4]"},
		{api.Instr{Op: api.Ldm, N: 13, List: 0x80f0, Back: true, Cond: api.Always}, "[13]", "[4 5 6 7 13 15]"},
		{api.Instr{Op: api.Ldm, N: 13, List: 0x80f0, Back: true, Cond: 11}, "[4 5 6 7 13]", "[4 5 6 7 13 15]"},
		{api.Instr{Op: api.Ldm, N: 1, List: 0xffff, Cond: api.Always}, "[1]", "[0 1 2 3 4 5 6 7 8 9 10 11 12 13 14 15]"},
		{api.Instr{Op: api.Stm, N: 1, List: 0x7fff, Cond: api.Always}, "[0 1 2 3 4 5 6 7 8 9 10 11 12 13 14]", "[]"},
		{api.Instr{Op: api.B, Cond: 0}, "[]", "[15]"},
		{api.Instr{Op: api.Bl, Cond: 0}, "[14]", "[14 15]"},
		{api.Instr{Op: api.Blx, M: 14, Cond: api.Always}, "[14]", "[14 15]"},
	}
	for _, x := range rows {
		if g := fmt.Sprint(inst.Reads(x.i)); g != x.reads {
			t.Errorf("P7.3: Reads of %+v: %s, not %s", x.i, g, x.reads)
		}
		if g := fmt.Sprint(inst.Writes(x.i)); g != x.writes {
			t.Errorf("P7.3: Writes of %+v: %s, not %s", x.i, g, x.writes)
		}
	}
}

func TestNew(t *testing.T) {
	i := api.Instr{Op: api.Ldm, N: 2, List: 0x8031, Back: true, Cond: 1}
	for _, f := range []func(api.Instr) []int{inst.Reads, inst.Writes} {
		a := f(i)
		want := slices.Clone(a)
		for k := range a {
			a[k] = 99
		}
		if b := f(i); !slices.Equal(b, want) {
			t.Errorf("rule 3: what is answered again: %v, not %v", b, want)
		}
	}
}

func TestAnyArguments(t *testing.T) {
	rnd := rand.New(rand.NewSource(77))
	odd := append([]int{1, 2, 13, 14, 15, 16, 31, 64, 0xffff, 1 << 16, -1 << 15, math.MaxInt32, math.MinInt32}, none...)
	pick := func() int { return odd[rnd.Intn(len(odd))] }
	for k := range 20000 {
		i := api.Instr{Op: k%(api.Ops+4) - 2, Wide: k&1 != 0, S: rnd.Intn(2) == 0, Cond: pick(), D: pick(), N: pick(), M: pick(), A: pick(), Imm: rnd.Uint32(), UseImm: rnd.Intn(2) == 0, Sh: pick(), Amt: pick(), List: pick(), Back: rnd.Intn(2) == 0, Down: rnd.Intn(2) == 0}
		if k%7 == 0 {
			i.Op = pick()
		}
		for _, l := range [][]int{inst.Reads(i), inst.Writes(i)} {
			for j, r := range l {
				if r < 0 || r > 15 || j > 0 && l[j-1] >= r {
					t.Fatalf("P7.3: what isn't rising, or no register: %v of %+v", l, i)
				}
			}
		}
		if slices.Contains(inst.Reads(i), 15) {
			t.Fatalf("P7.3: 15 is read of %+v", i)
		}
		if s := inst.Sets(i); s < 0 || s > 15 {
			t.Fatalf("P7.3: Sets of %+v: %d", i, s)
		}
		inst.Uses(i)
		inst.Branches(i)
		inst.Loads(i)
		inst.Stores(i)
		inst.Size(i)
	}
}
