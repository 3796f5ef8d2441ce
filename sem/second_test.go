package sem_test

import (
	"testing"

	"sourdine/api"
	"sourdine/sem"
)

// TestSecond: P13.2: the second and its carry, by each of its forms.
func TestSecond(t *testing.T) {
	for _, x := range []struct {
		i           api.Instr
		v           uint32
		clear, held bool // the carry, of a C that is clear, and of one that is set
	}{
		{api.Instr{Imm: 0x80000001, UseImm: true}, 0x80000001, false, true},
		{api.Instr{Imm: 0x80000001, UseImm: true, A: 1}, 0x80000001, true, true},
		{api.Instr{Imm: 0x7fffffff, UseImm: true, A: 1}, 0x7fffffff, false, false},
		{api.Instr{Imm: 0x80000000, UseImm: true, A: 2}, 0x80000000, false, true},
		{api.Instr{UseImm: true, M: 1, Sh: api.ShLsl, Amt: 1}, 0, false, true},
		{api.Instr{M: 1}, 0x80000005, false, true},
		{api.Instr{M: 1, Amt: 3}, 0x80000005, false, true},
		{api.Instr{M: 2, A: 1, Imm: 0x80000000}, 6, false, true},
		{api.Instr{M: 1, Sh: api.ShLsl, Amt: 1}, 10, true, true},
		{api.Instr{M: 2, Sh: api.ShLsl, Amt: 1}, 12, false, false},
		{api.Instr{M: 1, Sh: api.ShLsr, Amt: 1}, 0x40000002, true, true},
		{api.Instr{M: 1, Sh: api.ShLsr, Amt: 32}, 0, true, true},
		{api.Instr{M: 1, Sh: api.ShAsr, Amt: 2}, 0xe0000001, false, false},
		{api.Instr{M: 1, Sh: api.ShAsr, Amt: 32}, 0xffffffff, true, true},
		{api.Instr{M: 1, Sh: api.ShRor, Amt: 3}, 0xb0000000, true, true},
		{api.Instr{M: 15}, 0xf0, false, true},
	} {
		s := regs(0, 0, 0x80000005, 6)
		if v, c := sem.Second(s, x.i); v != x.v || c != x.clear {
			t.Errorf("P13.2: Second of %+v: %#x, %v", x.i, v, c)
		}
		if v, c := sem.Second(flagged(s, api.C), x.i); v != x.v || c != x.held {
			t.Errorf("P13.2: Second of %+v with C: %#x, %v", x.i, v, c)
		}
	}
	turn := api.Instr{M: 1, Sh: api.ShRrx, Amt: 1}
	if v, c := sem.Second(regs(0, 0, 5), turn); v != 2 || !c {
		t.Errorf("P13.2: Second by Rrx: %#x, %v", v, c)
	}
	if v, c := sem.Second(regs(api.C, 0, 4), turn); v != 0x80000002 || c {
		t.Errorf("P13.2: Second by Rrx with C: %#x, %v", v, c)
	}
}

// TestAddress: P13.3: where the first byte is that is loaded or stored.
func TestAddress(t *testing.T) {
	s := regs(0, 0, 0x200, 3)
	for _, x := range []struct {
		i    api.Instr
		want uint32
	}{
		{api.Instr{Op: api.Ldr, N: 1, M: 2, Imm: 5, UseImm: true}, 0x205},
		{api.Instr{Op: api.Strh, N: 1, Imm: 0xfffffffe, UseImm: true}, 0x1fe},
		{api.Instr{Op: api.Ldrb, N: 1, M: 2}, 0x203},
		{api.Instr{Op: api.Strb, N: 1, M: 2, Amt: 1, Imm: 9}, 0x206},
		{api.Instr{Op: api.Ldrsh, N: 1, M: 2, Amt: 3}, 0x218},
		{api.Instr{Op: api.Ldr, N: 15, Imm: 0x20, UseImm: true}, 0x128},
		{api.Instr{Op: api.Ldrsb, N: 15, Imm: 0xffffffff, UseImm: true}, 0x107},
		{api.Instr{Op: api.Ldm, N: 1, List: 0xffff, Back: true}, 0x200},
		{api.Instr{Op: api.Ldm, N: 1, List: 0x8003, Down: true}, 0x1f4},
		{api.Instr{Op: api.Stm, N: 1, List: 0xffff, Down: true}, 0x1c0},
		{api.Instr{Op: api.Stm, N: 2, List: 1, Down: true, Back: true}, 0xffffffff},
		{api.Instr{Op: api.Add, N: 1, Imm: 5, UseImm: true}, 0},
		{api.Instr{Op: api.Adr, N: 1, Imm: 5, UseImm: true}, 0},
		{api.Instr{Op: api.Cbz, N: 1, Imm: 8}, 0},
		{api.Instr{Op: api.Bl, Imm: 8}, 0},
		{api.Instr{Op: api.Mul, N: 1, M: 2}, 0},
		{api.Instr{Op: api.Uxth, M: 1}, 0},
		{api.Instr{Op: api.Svc}, 0},
		{api.Instr{Op: 0, N: 1}, 0},
		{api.Instr{Op: api.Ops, N: 1, UseImm: true}, 0},
	} {
		for _, c := range []int{al, 0} {
			x.i.Cond = c
			if got := sem.Address(s, 0x106, x.i); got != x.want {
				t.Errorf("P13.3: Address of %+v: %#x, not %#x", x.i, got, x.want)
			}
		}
	}
}

// TestReckons: P13.2: what comes into D and A.
func TestReckons(t *testing.T) {
	for _, x := range []struct {
		s    api.State
		i    api.Instr
		d, a uint32
	}{
		{regs(0, 0, 12, 10), api.Instr{Op: api.And, N: 1, M: 2}, 8, 0xaa},
		{regs(0, 0, 12, 10), api.Instr{Op: api.Eor, N: 1, M: 2}, 6, 0xaa},
		{regs(0, 0, 12, 10), api.Instr{Op: api.Orr, N: 1, M: 2}, 14, 0xaa},
		{regs(0, 0, 12, 10), api.Instr{Op: api.Bic, N: 1, M: 2}, 4, 0xaa},
		{regs(0, 0, 12, 10), api.Instr{Op: api.Orn, N: 1, M: 2}, 0xfffffffd, 0xaa},
		{regs(0, 0, 12, 10), api.Instr{Op: api.Mov, N: 1, M: 2}, 10, 0xaa},
		{regs(0, 0, 12, 10), api.Instr{Op: api.Mvn, N: 1, M: 2}, 0xfffffff5, 0xaa},
		{regs(0, 0, 12, 10), api.Instr{Op: api.Add, N: 1, M: 2}, 22, 0xaa},
		{regs(2, 0, 12, 10), api.Instr{Op: api.Add, N: 1, M: 2}, 22, 0xaa},
		{regs(2, 0, 12, 10), api.Instr{Op: api.Adc, N: 1, M: 2}, 23, 0xaa},
		{regs(0, 0, 12, 10), api.Instr{Op: api.Sub, N: 1, M: 2}, 2, 0xaa},
		{regs(0, 0, 12, 10), api.Instr{Op: api.Sbc, N: 1, M: 2}, 1, 0xaa},
		{regs(2, 0, 12, 10), api.Instr{Op: api.Sbc, N: 1, M: 2}, 2, 0xaa},
		{regs(0, 0, 12, 10), api.Instr{Op: api.Rsb, N: 1, M: 2}, 0xfffffffe, 0xaa},
		{regs(0, 0, 12, 10), api.Instr{Op: api.Tst, N: 1, M: 2, S: true}, 0, 0xaa},
		{regs(0, 0, 12, 10), api.Instr{Op: api.Teq, N: 1, M: 2, S: true}, 0, 0xaa},
		{regs(0, 0, 12, 10), api.Instr{Op: api.Cmp, N: 1, M: 2, S: true}, 0, 0xaa},
		{regs(0, 0, 12, 10), api.Instr{Op: api.Cmn, N: 1, M: 2, S: true}, 0, 0xaa},
		{regs(0, 0, 0x80000001, 0xff04), api.Instr{Op: api.Lsl, N: 1, M: 2}, 0x10, 0xaa},
		{regs(0, 0, 0x80000001, 4), api.Instr{Op: api.Lsr, N: 1, M: 2}, 0x08000000, 0xaa},
		{regs(0, 0, 0x80000001, 4), api.Instr{Op: api.Asr, N: 1, M: 2}, 0xf8000000, 0xaa},
		{regs(0, 0, 0x80000001, 4), api.Instr{Op: api.Ror, N: 1, M: 2}, 0x18000000, 0xaa},
		{regs(0, 0, 0x80000001, 4), api.Instr{Op: api.Lsr, N: 1, Imm: 32, UseImm: true}, 0, 0xaa},
		{regs(0, 0, 0x80000001, 4), api.Instr{Op: api.Asr, N: 1, Imm: 31, UseImm: true}, 0xffffffff, 0xaa},
		{regs(0, 0, 0x10001, 0x10003), api.Instr{Op: api.Mul, N: 1, M: 2}, 0x40003, 0xaa},
		{regs(0, 0, 12, 10), api.Instr{Op: api.Mla, N: 1, M: 2, A: 3}, 120 + 0xaa, 0xaa},
		{regs(0, 0, 12, 10), api.Instr{Op: api.Mls, N: 1, M: 2, A: 3}, 50, 0xaa},
		{regs(0, 0, 0xffffffff, 0xffffffff), api.Instr{Op: api.Umull, N: 1, M: 2, A: 3}, 1, 0xfffffffe},
		{regs(0, 0, 0xffffffff, 0xffffffff), api.Instr{Op: api.Smull, N: 1, M: 2, A: 3}, 1, 0},
		{regs(0, 0xffffffff, 0xffffffff, 0xffffffff), api.Instr{Op: api.Umlal, N: 1, M: 2, A: 3}, 0, 0xa9},
		{regs(0, 0xffffffff, 0xffffffff, 0xffffffff), api.Instr{Op: api.Smlal, N: 1, M: 2, A: 3}, 0, 0xab},
		{regs(0, 0, 0xfffffff9, 2), api.Instr{Op: api.Udiv, N: 1, M: 2}, 0x7ffffffc, 0xaa},
		{regs(0, 0, 0xfffffff9, 2), api.Instr{Op: api.Sdiv, N: 1, M: 2}, 0xfffffffd, 0xaa},
		{regs(0, 5, 7, 0), api.Instr{Op: api.Udiv, N: 1, M: 2}, 0, 0xaa},
		{regs(0, 5, 7, 0), api.Instr{Op: api.Sdiv, N: 1, M: 2}, 0, 0xaa},
		{regs(0, 5, 0x80000000, 0xffffffff), api.Instr{Op: api.Sdiv, N: 1, M: 2}, 0x80000000, 0xaa},
		{regs(0, 0x12345678), api.Instr{Op: api.Movt, Imm: 0xffff}, 0xffff5678, 0xaa},
		{regs(0, 9, 0xabcd), api.Instr{Op: api.Ubfx, N: 1, Imm: 4 + 32*8}, 0xbc, 0xaa},
		{regs(0, 9, 0xabcd), api.Instr{Op: api.Sbfx, N: 1, Imm: 4 + 32*8}, 0xffffffbc, 0xaa},
		{regs(0, 9, 0xabcd), api.Instr{Op: api.Sbfx, N: 1, Imm: 32 * 1}, 0xffffffff, 0xaa},
		{regs(0, 9, 0x80000000), api.Instr{Op: api.Ubfx, N: 1, Imm: 31 + 32*1}, 1, 0xaa},
		{regs(0, 9, 0x8abcdef0), api.Instr{Op: api.Sbfx, N: 1, Imm: 32 * 32}, 0x8abcdef0, 0xaa},
		{regs(0, 0x11111111, 0xff2), api.Instr{Op: api.Bfi, N: 1, Imm: 28 + 32*4}, 0x21111111, 0xaa},
		{regs(0, 0x11111111, 0xff2), api.Instr{Op: api.Bfi, N: 15, Imm: 4 + 32*20}, 0x11000001, 0xaa},
		{regs(0, 1, 0, 0), api.Instr{Op: api.Clz, M: 2}, 32, 0xaa},
		{regs(0, 1, 0, 6), api.Instr{Op: api.Rbit, M: 2}, 0x60000000, 0xaa},
		{regs(0, 1, 0, 0x11223384), api.Instr{Op: api.Rev, M: 2}, 0x84332211, 0xaa},
		{regs(0, 1, 0, 0x11223384), api.Instr{Op: api.Rev16, M: 2}, 0x22118433, 0xaa},
		{regs(0, 1, 0, 0x11223384), api.Instr{Op: api.Revsh, M: 2}, 0xffff8433, 0xaa},
		{regs(0, 1, 0, 0x11228384), api.Instr{Op: api.Sxtb, M: 2}, 0xffffff84, 0xaa},
		{regs(0, 1, 0, 0x11228384), api.Instr{Op: api.Sxth, M: 2}, 0xffff8384, 0xaa},
		{regs(0, 1, 0, 0x11228384), api.Instr{Op: api.Uxtb, M: 2}, 0x84, 0xaa},
		{regs(0, 1, 0, 0x11228384), api.Instr{Op: api.Uxth, M: 2}, 0x8384, 0xaa},
	} {
		x.i.Cond = al
		s := with(x.s, 3, 0xaa)
		got, _, err := sem.Step(s, nil, pc, x.i)
		want := with(with(on(s, pc+2), 0, x.d), 3, x.a)
		if got.R != want.R || err != api.OK {
			t.Errorf("P13.2: Step of %+v: %#x, %d, not %#x", x.i, got.R, err, want.R)
		}
	}
}
