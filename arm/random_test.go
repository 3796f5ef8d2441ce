package arm_test

import (
	"math/rand"
	"slices"
	"strconv"
	"testing"

	"sourdine/api"
	"sourdine/arm"
	"sourdine/fetch"
)

// someInstr: one of those that make programs go round, store over themselves, and end now and then. Registers 4 to 7 mostly hold addresses.
func someInstr(r *rand.Rand) []api.Instr {
	low, base := r.Intn(4), 4+r.Intn(4)
	switch r.Intn(40) {
	case 0, 1, 2, 3, 4, 5:
		return []api.Instr{mov(low, uint32(r.Intn(256)))}
	case 6, 7, 8:
		return []api.Instr{imm([]int{api.Add, api.Sub}[r.Intn(2)], low, r.Intn(8), uint32(r.Intn(8)), true)}
	case 9, 10:
		return []api.Instr{imm(api.Cmp, 0, low, uint32(r.Intn(3)), true)}
	case 11, 12, 13:
		return []api.Instr{imm(api.Ldr, low, 15, 4*uint32(r.Intn(20)), false)}
	case 14, 15, 16, 17:
		return []api.Instr{imm([]int{api.Ldr, api.Str}[r.Intn(2)], low, base, 4*uint32(r.Intn(8)), false)}
	case 18, 19, 20, 21:
		return []api.Instr{imm([]int{api.Ldrh, api.Strh}[r.Intn(2)], low, base, 2*uint32(r.Intn(16)), false)}
	case 22, 23, 24, 25:
		return []api.Instr{svc(uint32(1 + r.Intn(3)))}
	case 26, 27, 28:
		return conditional(r)
	case 29, 30, 31:
		return []api.Instr{to(api.B, r.Intn(14), 2*(r.Intn(40)-20))}
	case 32, 33:
		return []api.Instr{{Op: []int{api.Cbz, api.Cbnz}[r.Intn(2)], Cond: al, N: low, Imm: 2 * uint32(r.Intn(10))}}
	case 34:
		return []api.Instr{many(api.Stm, 13, 1<<low|1<<14, true, true), mov(0, 3), many(api.Ldm, 13, 1<<low|1<<15, true, false)}
	case 35:
		return []api.Instr{wide(to(api.Bl, al, 2*(r.Intn(40)-20)))}
	}
	return seldom(r)
}

// seldom: what ends many programs, one way or another.
func seldom(r *rand.Rand) []api.Instr {
	switch r.Intn(12) {
	case 0:
		return []api.Instr{svc(0)}
	case 1:
		return []api.Instr{{Op: []int{api.Bx, api.Blx}[r.Intn(2)], Cond: al, M: 14}}
	case 2:
		return []api.Instr{mov(1, 6), {Op: api.Mvn, Cond: al, D: 1, M: 1, S: true}, bx(1)}
	case 3:
		return []api.Instr{bx(r.Intn(8))}
	case 4:
		return []api.Instr{mov(4+r.Intn(4), uint32(r.Intn(256)))}
	case 5:
		return []api.Instr{just(api.Bkpt, 1)}
	}
	return []api.Instr{just(api.Nop, 0)}
}

// conditional: an It and what stands behind it.
func conditional(r *rand.Rand) []api.Instr {
	c := r.Intn(14)
	i := []api.Instr{svc(0), svc(1), svc(2), svc(2), imm(api.Mov, 1, 0, 9, false), bx(14)}[r.Intn(6)]
	mask := uint32(4 | c&1<<3)
	return []api.Instr{just(api.It, uint32(c)<<4|mask), when(c, imm(api.Mov, 0, 0, 7, false)), when(c, i)}
}

// someCode: bytes of instructions behind first, with halves at random between them now and then.
func someCode(t *testing.T, r *rand.Rand, n int, first ...api.Instr) []byte {
	t.Helper()
	all := put(t, first...)
	for len(all) < n {
		if r.Intn(100) == 0 {
			all = append(all, byte(r.Intn(256)), byte(r.Intn(256)))
			continue
		}
		b, ok := fetch.Put(someInstr(r)...)
		if !ok {
			continue
		}
		all = append(all, b...)
	}
	return all[:n]
}

// someImage: all of it within what a Mov can reach; its code may be stored over.
func someImage(t *testing.T, r *rand.Rand) api.Image {
	t.Helper()
	first := []api.Instr{mov(4, 160), mov(5, 196), mov(6, 224), mov(7, uint32(8+4*r.Intn(24)))}
	handler := slices.Concat(someInstr(r), someInstr(r), []api.Instr{bx(14)})
	x := api.Image{Regions: []api.Region{
		{From: 8, Len: 128, Read: true, Write: true, Exec: true, Bytes: someCode(t, r, 128, first...)},
		{From: 136, Len: 24, Exec: true, Bytes: put(t, handler...)},
		{From: 160, Len: 64, Read: true, Write: true},
		{From: 224, Len: 64, Read: true, Write: true, Secret: true, Bytes: []byte{1, 2, 3, 4}},
	}, Entry: 8, SP: 160 + 4*uint32(r.Intn(33))}
	switch r.Intn(4) {
	case 0:
		x.Tick = 8 + 2*uint32(r.Intn(64))
	case 1, 2:
		x.Tick = 136
	}
	return x
}

// someScript: ticks near one another, and some numbers that come in.
func someScript(r *rand.Rand) api.Script {
	sc := api.Script{Fuel: r.Intn(200) - 3, In: []uint32{r.Uint32(), uint32(r.Intn(256)), 9}[:r.Intn(4)]}
	for n := r.Intn(20); n < 150 && r.Intn(8) > 0; n += 1 + r.Intn(20) {
		sc.Ticks = append(sc.Ticks, n)
	}
	return sc
}

// seenIn: what happened, so that the test knows that nothing was left out.
func seenIn(o *model, much map[string]int) {
	much[[]string{"running", "exited", "fuel", "fault"}[o.end]]++
	for _, x := range o.obs {
		much[[]string{"", "pc", "load", "store", "tick", "back", "out", "code"}[x.Kind]]++
	}
	if o.end == api.Fault {
		much["error "+strconv.Itoa(int(o.err))]++
		if o.s.Handler {
			much["fault within the handler"]++
		}
		if o.s.R[15] == 0xfffffff9 {
			much["back from nowhere"]++
		}
	}
}

// TestRandom: programs at random, boundary by boundary, against the model.
func TestRandom(t *testing.T) {
	r := rand.New(rand.NewSource(14))
	much := map[string]int{}
	for k := range 4000 {
		x, sc := someImage(t, r), someScript(r)
		a, err := arm.New(x, sc)
		if err != api.OK {
			t.Fatalf("P14.1: New: %d", err)
		}
		o := newModel(t, x, sc)
		for going := true; going; {
			want := o.step()
			going = a.Step()
			if going != want || !o.same(t, "P14.1", a) {
				t.Fatalf("P14.1: program %d: Step %v, not %v: of %+v, %+v", k, going, want, x, sc)
			}
		}
		if a.Step() || !o.same(t, "P14.1: behind the end", a) {
			t.Fatalf("P14.1: program %d: Step behind the end", k)
		}
		seenIn(o, much)
	}
	for _, w := range []string{
		"exited", "fuel", "fault", "tick", "back", "out", "code", "fault within the handler", "back from nowhere",
		"error 24", "error 25", "error 26", "error 27", "error 28", "error 29", "error 30",
	} {
		if much[w] < 20 {
			t.Errorf("P14.1: %s: only %d times: %v", w, much[w], much)
		}
	}
}
