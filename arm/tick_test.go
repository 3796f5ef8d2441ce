package arm_test

import (
	"math"
	"slices"
	"strconv"
	"testing"

	"sourdine/api"
	"sourdine/arm"
)

// ticked: counts up with numbers that it tells; the handler, at tick, is h.
func ticked(t *testing.T, h ...api.Instr) api.Image {
	t.Helper()
	l := []api.Instr{
		mov(0, 1), to(api.B, al, -2), imm(api.Add, 0, 0, 1, true), to(api.B, al, -2), imm(api.Add, 0, 0, 1, true), svc(1), svc(0), just(api.Nop, 0),
	}
	x := loaded(t, append(l, h...)...)
	x.Tick = code + 16
	return x
}

// path: where the machine is at each boundary, up to its end; behind a place within the handler stands an h.
func path(a *arm.Machine) string {
	all := ""
	for going := true; going; going = a.Step() {
		all += texts(a.State().R[15])
		if a.State().Handler {
			all += "h"
		}
	}
	end, _ := a.End()
	return all + " " + strconv.Itoa(a.Retired()) + " " + strconv.Itoa(end) + ":" + texts(a.Out()...)
}

// TestTicks: where the handler breaks in.
func TestTicks(t *testing.T) {
	const plain = " 10 14 18 1c 1e 7 1: 3"
	for k, c := range []struct {
		ticks []int
		fuel  int
		want  string
	}{
		{nil, 99, plain},
		{[]int{0}, 99, " 10 20h 24h 10 14 18 1c 1e 10 1: 9 3"},
		{[]int{1}, 99, " 10 14 20h 24h 14 18 1c 1e 10 1: 9 3"},
		{[]int{2}, 99, " 10 14 20h 24h 14 18 1c 1e 10 1: 9 3"},
		{[]int{3}, 99, " 10 14 18 20h 24h 18 1c 1e 10 1: 9 3"},
		{[]int{1, 2}, 99, " 10 14 20h 24h 14 18 1c 1e 10 1: 9 3"},
		{[]int{0, 1}, 99, " 10 20h 24h 10 20h 24h 10 14 18 1c 1e 13 1: 9 9 3"},
		{[]int{0, 3}, 99, " 10 20h 24h 10 20h 24h 10 14 18 1c 1e 13 1: 9 9 3"},
		{[]int{0, 1, 2, 3}, 99, " 10 20h 24h 10 20h 24h 10 14 18 1c 1e 13 1: 9 9 3"},
		{[]int{0, 4}, 99, " 10 20h 24h 10 14 20h 24h 14 18 1c 1e 13 1: 9 9 3"},
		{[]int{6}, 99, " 10 14 18 1c 20h 24h 1c 1e 10 1: 3 9"},
		{[]int{7}, 99, plain},
		{[]int{math.MaxInt}, 99, plain},
		// Without fuel there is no tick.
		{[]int{0}, 0, " 10 0 2:"},
		{[]int{0}, -4, " 10 0 2:"},
		{[]int{0}, 1, " 10 20h 24h 2 2: 9"},
		{[]int{0}, 3, " 10 20h 24h 10 3 2: 9"},
		{[]int{2}, 2, " 10 14 2 2:"},
		{[]int{2}, 3, " 10 14 20h 24h 4 2: 9"},
	} {
		x := ticked(t, mov(0, 9), svc(1), bx(14))
		a := made(t, x, api.Script{Ticks: c.ticks, Fuel: c.fuel})
		if got := path(a); got != c.want {
			t.Errorf("P14.1: ticks %d:%s, not%s", k, got, c.want)
		}
		x.Tick = 0
		a = made(t, x, api.Script{Ticks: c.ticks, Fuel: 99})
		if got := path(a); got != plain {
			t.Errorf("P14.1: ticks %d without a handler:%s, not%s", k, got, plain)
		}
	}
}

// TestFrame: what the handler begins with, and what comes back.
func TestFrame(t *testing.T) {
	l := []api.Instr{mov(1, 0xf0), imm(api.Add, 1, 1, 0x10, true), imm(api.Cmp, 0, 1, 0xff, true), mov(3, 5), imm(api.Cmp, 0, 3, 5, true), to(api.B, al, -2), svc(1), svc(0)}
	h := []api.Instr{mov(3, 0), imm(api.Sub, 3, 3, 1, true), imm(api.Str, 3, 1, 4, false), mov(1, 2), svc(2), svc(1), imm(api.Sub, 13, 13, 16, false), bx(14)}
	x := loaded(t, append(l, h...)...)
	x.Tick = code + 16
	a := made(t, x, api.Script{Ticks: []int{3}, In: []uint32{0x77, 0x78}, Fuel: 99})
	a.Step()
	was := a.State()
	if !a.Step() {
		t.Fatal("P14.1: a tick: false")
	}
	want := was
	want.R[14], want.R[15], want.Handler = 0xfffffff9, code+16, true
	if a.State() != want || was.Flags != api.Z|api.C || a.Retired() != 6 || a.Obs()[6] != (api.Obs{Kind: api.ObsTick}) {
		t.Errorf("P14.1: State at a tick %+v, not %+v; Obs %v", a.State(), want, a.Obs())
	}
	a.Step()
	if s := a.State(); s.R[0] != 0x77 || s.R[3] != 0xffffffff || s.Flags&api.N != 0 || !s.Handler {
		t.Errorf("P14.2: State within the handler %+v", s)
	}
	a.Step()
	a.Step()
	if a.State() != was || a.Retired() != 14 {
		t.Errorf("P14.2: State behind the handler %+v, not %+v", a.State(), was)
	}
	if v, _ := a.Mem().Load(data+4, 4); v != 0xffffffff {
		t.Errorf("P14.2: what the handler stored: %x", v)
	}
	steps(a)
	want2 := " p10 p12 p14 p16 p18 p1a t0 p20 p22 p24 s104 p26 p28 p2a o77 p2c p2e b0 p1c o0 p1e"
	if got := seen(a.Obs()); got != want2 {
		t.Errorf("P14.2: Obs:%s, not%s", got, want2)
	}
}

// TestInGoesOn: numbers that came in to the handler came in.
func TestInGoesOn(t *testing.T) {
	l := []api.Instr{svc(2), svc(1), svc(2), svc(1), svc(0), just(api.Nop, 0), just(api.Nop, 0), just(api.Nop, 0)}
	x := loaded(t, append(l, svc(2), bx(14))...)
	x.Tick = code + 16
	a := made(t, x, api.Script{Ticks: []int{1}, In: []uint32{4, 5, 6}, Fuel: 99})
	if got := path(a); got != " 10 12 20h 22h 12 14 16 18 1a 7 1: 4 6" {
		t.Errorf("P14.2: In:%s", got)
	}
}

// TestWaysBack: how a handler ends, and how it doesn't.
func TestWaysBack(t *testing.T) {
	pop := many(api.Ldm, 13, 1<<15, true, false)
	push := many(api.Stm, 13, 1<<14, true, true)
	for k, c := range []struct {
		h    []api.Instr
		want string
	}{
		{[]api.Instr{bx(14)}, " 10 20h 10 14 18 1c 1e 8 1: 3"},
		{[]api.Instr{{Op: api.Blx, Cond: al, M: 14}}, " 10 20h 10 14 18 1c 1e 8 1: 3"},
		{[]api.Instr{push, pop}, " 10 20h 10 14 18 1c 1e 9 1: 3"},
		{[]api.Instr{mov(4, 6), {Op: api.Mvn, Cond: al, D: 4, M: 4, S: true}, bx(4)}, " 10 20h 10 14 18 1c 1e 10 1: 3"},
		{[]api.Instr{push, wide(to(api.Bl, al, 4)), pop, just(api.Nop, 0), bx(14)}, " 10 20h 2ah 26h 10 14 18 1c 1e 11 1: 3"},
		{[]api.Instr{just(api.It, 0x18), when(1, bx(14)), svc(1), bx(14)}, " 10 20h 10 14 18 1c 1e 9 1: 3"},
		{[]api.Instr{just(api.It, 0x08), when(0, bx(14)), svc(1), bx(14)}, " 10 20h 24h 26h 10 14 18 1c 1e 11 1: 0 3"},
		{[]api.Instr{svc(0)}, " 10 20h 22h 1 1:"},
		{[]api.Instr{just(api.Bkpt, 0)}, " 10 20h 0 3:"},
		{[]api.Instr{mov(0, 2), bx(0)}, " 10 20h 1 3:"},
		{[]api.Instr{mov(0, 3), bx(0)}, " 10 20h 2h 2 3:"},
		{[]api.Instr{to(api.B, al, -36)}, " 10 20h 0h 1 3:"},
	} {
		a := made(t, ticked(t, c.h...), api.Script{Ticks: []int{0}, Fuel: 99})
		if got := path(a); got != c.want {
			t.Errorf("P14.2: handler %d:%s, not%s", k, got, c.want)
		}
	}
}

// TestBackFromNowhere: outside of the handler its return leads nowhere, though a tick may still break in there, and come back to it.
func TestBackFromNowhere(t *testing.T) {
	l := []api.Instr{mov(4, 6), {Op: api.Mvn, Cond: al, D: 4, M: 4, S: true}, bx(4), just(api.Nop, 0)}
	x := loaded(t, append(l, svc(1), bx(14))...)
	x.Tick = code + 8
	for k, c := range []struct {
		ticks []int
		fuel  int
		want  string
	}{
		{nil, 99, " 10 fffffff9 3 3:"},
		{nil, 3, " 10 fffffff9 3 2:"},
		{[]int{3}, 99, " 10 fffffff9 18h 1ah fffffff9 5 3: 0"},
		{[]int{3, 4}, 99, " 10 fffffff9 18h 1ah fffffff9 18h 1ah fffffff9 7 3: 0 0"},
	} {
		a := made(t, x, api.Script{Ticks: c.ticks, Fuel: c.fuel})
		if got := path(a); got != c.want {
			t.Errorf("P14.2: back from nowhere %d:%s, not%s", k, got, c.want)
		}
		if end, err := a.End(); end == api.Fault && err != api.ErrExec {
			t.Errorf("P14.2: back from nowhere %d: %d", k, err)
		}
	}
}

// TestWaiting: a tick that falls due within the handler waits, and one step takes all that wait.
func TestWaiting(t *testing.T) {
	x := ticked(t, just(api.Nop, 0), to(api.B, al, -2), just(api.Nop, 0), svc(1), bx(14))
	for k, c := range []struct {
		ticks []int
		want  string
	}{
		{[]int{0, 5}, " 10 20h 24h 28h 10 20h 24h 28h 10 14 18 1c 1e 17 1: 0 0 3"},
		{[]int{0, 6}, " 10 20h 24h 28h 10 14 20h 24h 28h 14 18 1c 1e 17 1: 0 1 3"},
		{[]int{0, 1, 2, 3, 4, 5}, " 10 20h 24h 28h 10 20h 24h 28h 10 14 18 1c 1e 17 1: 0 0 3"},
		{[]int{0, 1, 10}, " 10 20h 24h 28h 10 20h 24h 28h 10 20h 24h 28h 10 14 18 1c 1e 22 1: 0 0 0 3"},
	} {
		a := made(t, x, api.Script{Ticks: c.ticks, Fuel: 99})
		if got := path(a); got != c.want {
			t.Errorf("P14.1: waiting %d:%s, not%s", k, got, c.want)
		}
	}
}

// TestHandlerIsEntry: the handler may be any code, the same that is run otherwise.
func TestHandlerIsEntry(t *testing.T) {
	x := loaded(t, svc(2), svc(1), bx(14))
	x.Tick = code
	a := made(t, x, api.Script{Ticks: []int{1}, In: []uint32{1, 2}, Fuel: 99})
	if got := path(a); got != " 10 12 10h 12h 14h 12 14 fffffffe 6 3: 2 1" {
		t.Errorf("P14.1: handler and entry:%s", got)
	}
	if !slices.Equal(a.Out(), []uint32{2, 1}) {
		t.Errorf("P14.2: Out %v", a.Out())
	}
}
