package arm_test

import (
	"math"
	"slices"
	"strconv"
	"testing"

	"sourdine/api"
	"sourdine/arm"
	"sourdine/fetch"
	"sourdine/mem"
	"sourdine/sem"
)

const (
	al   = api.Always
	code = 0x10  // where the code of these tests begins
	data = 0x100 // where words lie that may be stored to
)

func imm(op, d, n int, v uint32, s bool) api.Instr {
	return api.Instr{Op: op, Cond: al, D: d, N: n, Imm: v, UseImm: true, S: s}
}

func many(op, n, list int, back, down bool) api.Instr {
	return api.Instr{Op: op, Cond: al, N: n, List: list, Back: back, Down: down}
}

func just(op int, v uint32) api.Instr { return api.Instr{Op: op, Cond: al, Imm: v} }

func svc(n uint32) api.Instr { return just(api.Svc, n) }

func mov(d int, v uint32) api.Instr { return imm(api.Mov, d, 0, v, true) }

func bx(m int) api.Instr { return api.Instr{Op: api.Bx, Cond: al, M: m} }

func to(op, c, by int) api.Instr { return api.Instr{Op: op, Cond: c, Imm: uint32(by)} }

func when(c int, i api.Instr) api.Instr {
	i.Cond = c
	return i
}

func wide(i api.Instr) api.Instr {
	i.Wide = true
	return i
}

// put: the bytes of l, which must be instructions.
func put(t *testing.T, l ...api.Instr) []byte {
	t.Helper()
	b, ok := fetch.Put(l...)
	if !ok {
		t.Fatalf("Put(%+v): false", l)
	}
	return b
}

// loaded: an image of l, with words to store to, and some that may be read alone.
func loaded(t *testing.T, l ...api.Instr) api.Image {
	t.Helper()
	return api.Image{Regions: []api.Region{
		{From: code, Len: 0x80, Read: true, Exec: true, Bytes: put(t, l...)},
		{From: data, Len: 0x40, Read: true, Write: true, Bytes: []byte{1, 2, 3, 4}},
		{From: 0x180, Len: 8, Read: true},
	}, Entry: code, SP: data + 0x40}
}

// made: a machine, of which New must tell no error.
func made(t *testing.T, x api.Image, sc api.Script) *arm.Machine {
	t.Helper()
	a, err := arm.New(x, sc)
	if err != api.OK || a == nil {
		t.Fatalf("P14.1: New(%+v, %+v): %d", x, sc, err)
	}
	return a
}

// steps: up to the end; how many there were.
func steps(a *arm.Machine) int {
	n := 0
	for a.Step() {
		n++
	}
	return n
}

// texts: numbers as a text.
func texts(l ...uint32) string {
	all := ""
	for _, v := range l {
		all += " " + strconv.FormatUint(uint64(v), 16)
	}
	return all
}

// seen: what is seen, as a text: a letter for each kind, and its number.
func seen(l []api.Obs) string {
	all := ""
	for _, o := range l {
		all += " " + string(".plstboc"[o.Kind]) + strconv.FormatUint(uint64(o.A), 16)
	}
	return all
}

// whole: all that a machine tells, as a text.
func whole(a *arm.Machine) string {
	s := a.State()
	end, err := a.End()
	all := texts(s.R[:]...) + " flags" + strconv.Itoa(s.Flags) + strconv.FormatBool(s.Handler) + seen(a.Obs()) + " out" + texts(a.Out()...)
	for k := range a.Mem().Regions() {
		all += " " + strconv.Quote(string(a.Mem().Bytes(k)))
	}
	return all + " " + strconv.Itoa(a.Retired()) + " " + strconv.Itoa(end) + " " + strconv.Itoa(int(err))
}

func TestNewErrors(t *testing.T) {
	for k, c := range []struct {
		f func(x *api.Image, sc *api.Script)
		e api.Errno
	}{
		{func(x *api.Image, sc *api.Script) {}, api.OK},
		{func(x *api.Image, sc *api.Script) { x.Regions = make([]api.Region, 9) }, api.ErrLimit},
		{func(x *api.Image, sc *api.Script) { x.Regions[1].Len = 0 }, api.ErrRegion},
		{func(x *api.Image, sc *api.Script) { x.Regions[0].Secret, x.Entry, sc.Ticks = true, 1, []int{-1} }, api.ErrRegion},
		{func(x *api.Image, sc *api.Script) { x.Regions = nil }, api.ErrEntry},
		{func(x *api.Image, sc *api.Script) { x.Entry = code + 1 }, api.ErrEntry},
		{func(x *api.Image, sc *api.Script) { x.Entry = code - 2 }, api.ErrEntry},
		{func(x *api.Image, sc *api.Script) { x.Entry = code + 0x7e }, api.OK},
		{func(x *api.Image, sc *api.Script) { x.Entry = code + 0x80 }, api.ErrEntry},
		{func(x *api.Image, sc *api.Script) { x.Entry = data }, api.ErrEntry},
		{func(x *api.Image, sc *api.Script) { x.Entry = 0 }, api.ErrEntry},
		{func(x *api.Image, sc *api.Script) { x.Regions[0].From, x.Entry = 0, 0 }, api.OK},
		{func(x *api.Image, sc *api.Script) { x.Regions[0].Read = false }, api.OK},
		{func(x *api.Image, sc *api.Script) { x.Regions[0].Exec = false }, api.ErrEntry},
		{func(x *api.Image, sc *api.Script) { x.Tick = 0 }, api.OK},
		{func(x *api.Image, sc *api.Script) { x.Tick = code }, api.OK},
		{func(x *api.Image, sc *api.Script) { x.Tick = code + 2 }, api.OK},
		{func(x *api.Image, sc *api.Script) { x.Tick = code + 3 }, api.ErrEntry},
		{func(x *api.Image, sc *api.Script) { x.Tick = 1 }, api.ErrEntry},
		{func(x *api.Image, sc *api.Script) { x.Tick = 2 }, api.ErrEntry},
		{func(x *api.Image, sc *api.Script) { x.Tick = data }, api.ErrEntry},
		{func(x *api.Image, sc *api.Script) { x.Tick = code + 0x80 }, api.ErrEntry},
		{func(x *api.Image, sc *api.Script) { x.SP = 0 }, api.OK},
		{func(x *api.Image, sc *api.Script) { x.SP = 1 }, api.ErrEntry},
		{func(x *api.Image, sc *api.Script) { x.SP = 2 }, api.ErrEntry},
		{func(x *api.Image, sc *api.Script) { x.SP = 0x13 }, api.ErrEntry},
		{func(x *api.Image, sc *api.Script) { x.SP = 4 }, api.OK},
		{func(x *api.Image, sc *api.Script) { x.SP = 0xfffffffc }, api.OK},
		{func(x *api.Image, sc *api.Script) { x.SP, sc.Ticks = 2, []int{1, 1} }, api.ErrEntry},
		{func(x *api.Image, sc *api.Script) { x.Tick, sc.Ticks = data, []int{1, 1} }, api.ErrEntry},
		{func(x *api.Image, sc *api.Script) { sc.Ticks = []int{} }, api.OK},
		{func(x *api.Image, sc *api.Script) { sc.Ticks = []int{0} }, api.OK},
		{func(x *api.Image, sc *api.Script) { sc.Ticks = []int{0, 1, 7} }, api.OK},
		{func(x *api.Image, sc *api.Script) { sc.Ticks = []int{math.MaxInt - 1, math.MaxInt} }, api.OK},
		{func(x *api.Image, sc *api.Script) { sc.Ticks = []int{-1} }, api.ErrForm},
		{func(x *api.Image, sc *api.Script) { sc.Ticks = []int{-1, 3} }, api.ErrForm},
		{func(x *api.Image, sc *api.Script) { sc.Ticks = []int{math.MinInt} }, api.ErrForm},
		{func(x *api.Image, sc *api.Script) { sc.Ticks = []int{0, 0} }, api.ErrForm},
		{func(x *api.Image, sc *api.Script) { sc.Ticks = []int{3, 9, 8} }, api.ErrForm},
		{func(x *api.Image, sc *api.Script) { sc.Ticks = []int{3, 9, 9, 10} }, api.ErrForm},
		{func(x *api.Image, sc *api.Script) { sc.Ticks = []int{math.MaxInt, 0} }, api.ErrForm},
		{func(x *api.Image, sc *api.Script) { sc.Ticks = []int{math.MaxInt, math.MaxInt} }, api.ErrForm},
		{func(x *api.Image, sc *api.Script) { sc.Ticks = []int{math.MaxInt, math.MinInt} }, api.ErrForm},
		{func(x *api.Image, sc *api.Script) { x.Tick, sc.Ticks = code, []int{2, 1} }, api.ErrForm},
		{func(x *api.Image, sc *api.Script) { sc.Fuel = math.MinInt }, api.OK},
		{func(x *api.Image, sc *api.Script) { sc.Fuel = math.MaxInt }, api.OK},
	} {
		x, sc := loaded(t, svc(0)), api.Script{}
		c.f(&x, &sc)
		if a, err := arm.New(x, sc); err != c.e || (a != nil) != (err == api.OK) {
			t.Errorf("P14.1: New %d: %v, %d, not %d", k, a, err, c.e)
		}
	}
}

func TestNewBegins(t *testing.T) {
	x := loaded(t, svc(0))
	x.Entry, x.Tick = code+6, code+2
	a := made(t, x, api.Script{Ticks: []int{0}, In: []uint32{7}, Fuel: 3})
	want := api.State{}
	want.R[13], want.R[14], want.R[15] = data+0x40, 0xffffffff, code+6
	if a.State() != want {
		t.Errorf("P14.1: State %+v, not %+v", a.State(), want)
	}
	if end, err := a.End(); end != api.Running || err != api.OK {
		t.Errorf("P14.1: End %d, %d", end, err)
	}
	if a.Retired() != 0 || len(a.Obs()) != 0 || len(a.Out()) != 0 {
		t.Errorf("P14.1: Retired %d, Obs %v, Out %v", a.Retired(), a.Obs(), a.Out())
	}
	if m, _ := mem.New(x.Regions); !a.Mem().Same(m) {
		t.Error("P14.1: Mem isn't that of the Regions")
	}
}

// TestRuns: how many steps, how many instructions, the end, its error, what went out, where, and whether within the handler.
func TestRuns(t *testing.T) {
	for k, c := range []struct {
		l    []api.Instr
		in   []uint32
		fuel int
		want string
	}{
		{[]api.Instr{svc(0)}, nil, 0, "0 0 2 0: 10 false"},
		{[]api.Instr{svc(0)}, nil, -1, "0 0 2 0: 10 false"},
		{[]api.Instr{svc(0)}, nil, math.MinInt, "0 0 2 0: 10 false"},
		{[]api.Instr{svc(0)}, nil, 1, "1 1 1 0: 12 false"},
		{[]api.Instr{svc(0)}, nil, math.MaxInt, "1 1 1 0: 12 false"},
		{[]api.Instr{mov(0, 0xff), svc(1), svc(0)}, nil, 9, "2 3 1 0 ff: 16 false"},
		{[]api.Instr{mov(0, 0xff), svc(1), svc(0)}, nil, 1, "1 2 2 0 ff: 14 false"},
		{[]api.Instr{mov(0, 0xff), svc(1), svc(0)}, nil, 2, "1 2 2 0 ff: 14 false"},
		{[]api.Instr{mov(0, 0xff), svc(1), svc(0)}, nil, 3, "2 3 1 0 ff: 16 false"},
		{[]api.Instr{svc(1), svc(2), svc(1), svc(2), svc(1), svc(2), svc(1), svc(2), svc(1), svc(0)}, []uint32{8, 0xffffffff}, 99, "10 10 1 0 0 8 ffffffff 0 0: 24 false"},
		{[]api.Instr{mov(0, 5), svc(3), svc(255), svc(1), svc(0)}, []uint32{8}, 99, "4 5 1 0 5: 1a false"},
		{[]api.Instr{mov(0, 5), svc(4), svc(5), svc(6), svc(128), svc(129), svc(130), svc(1), svc(0)}, []uint32{8}, 99, "8 9 1 0 5: 22 false"},
		{[]api.Instr{just(api.It, 0x08), when(0, svc(0)), just(api.It, 0x08), when(0, svc(1)), just(api.It, 0x08), when(0, svc(2)), svc(1), svc(0)}, []uint32{8}, 99, "5 8 1 0 0: 20 false"},
		{[]api.Instr{mov(0, 0), just(api.It, 0x08), when(0, svc(1)), just(api.It, 0x08), when(0, svc(2)), svc(1), just(api.It, 0x08), when(0, svc(0)), svc(1)}, []uint32{8}, 99, "4 8 1 0 0 8: 20 false"},
		{[]api.Instr{mov(0, 3), imm(api.Sub, 0, 0, 1, true), to(api.B, 1, -6), svc(1), svc(0)}, nil, 99, "5 9 1 0 0: 1a false"},
		{[]api.Instr{mov(0, 3), imm(api.Sub, 0, 0, 1, true), to(api.B, al, -6)}, nil, 50, "25 51 2 0: 12 false"},
		// Faults: at once, within a block, behind one.
		{[]api.Instr{just(api.Bkpt, 3)}, nil, 99, "0 0 3 1d: 10 false"},
		{[]api.Instr{mov(0, 3), just(api.Bkpt, 3)}, nil, 99, "0 1 3 1d: 12 false"},
		{[]api.Instr{mov(0, 3), svc(1), just(api.Nop, 0), just(api.Bkpt, 3)}, nil, 99, "1 3 3 1d 3: 16 false"},
		{[]api.Instr{mov(0, 3), svc(1), mov(0, 1), just(api.Bkpt, 3)}, nil, 2, "1 2 2 0 3: 14 false"},
		{[]api.Instr{mov(0, 3), imm(api.Ldr, 0, 0, 4, false)}, nil, 99, "0 1 3 19: 12 false"},
		{[]api.Instr{mov(0, 0), imm(api.Ldr, 0, 0, 4, false)}, nil, 99, "0 1 3 18: 12 false"},
		{[]api.Instr{mov(0, code), imm(api.Str, 0, 0, 4, false)}, nil, 99, "0 1 3 18: 12 false"},
		{[]api.Instr{bx(0)}, nil, 99, "0 0 3 1e: 10 false"},
		{[]api.Instr{bx(14)}, nil, 99, "1 1 3 1a: fffffffe false"},
		{[]api.Instr{to(api.B, al, 0x7c)}, nil, 99, "1 1 3 1a: 90 false"},
		{[]api.Instr{to(api.B, al, 0x7a)}, nil, 9, "2 2 3 1a: 90 false"},
		{[]api.Instr{to(api.B, al, 0x7a)}, nil, 2, "2 2 2 0: 90 false"},
		{[]api.Instr{to(api.B, al, 0xec)}, nil, 99, "1 1 3 1a: 100 false"},
		{[]api.Instr{mov(1, 6), {Op: api.Mvn, Cond: al, D: 1, M: 1, S: true}, bx(1)}, nil, 99, "1 3 3 1a: fffffff9 false"},
	} {
		a := made(t, loaded(t, c.l...), api.Script{In: c.in, Fuel: c.fuel})
		n := steps(a)
		end, err := a.End()
		got := strconv.Itoa(n) + " " + strconv.Itoa(a.Retired()) + " " + strconv.Itoa(end) + texts(uint32(err)) + texts(a.Out()...)
		got += ":" + texts(a.State().R[15]) + " " + strconv.FormatBool(a.State().Handler)
		if got != c.want {
			t.Errorf("P14.1: run %d: %s, not %s", k, got, c.want)
		}
		was := whole(a)
		if a.Step() || whole(a) != was {
			t.Errorf("P14.1: run %d: Step behind the end", k)
		}
	}
}

// TestRunsOfWrongHalves: what is no instruction, and what may not be, and what another region ahead of it doesn't hide.
func TestRunsOfWrongHalves(t *testing.T) {
	for _, c := range []struct {
		halves []byte
		n      int
		e      api.Errno
	}{
		{[]byte{0x05, 0x20, 0xff, 0xde}, 1, api.ErrUndefined},
		{[]byte{0xff, 0xff, 0xff, 0xff}, 0, api.ErrUndefined},
		{[]byte{0x05, 0x20, 0x05, 0x20, 0x78, 0x47, 0, 0}, 2, api.ErrUnpredictable},
	} {
		x := loaded(t)
		x.Regions[0].Bytes = c.halves
		a := made(t, x, api.Script{Fuel: 9})
		n := steps(a)
		if end, err := a.End(); n != 0 || a.Retired() != c.n || end != api.Fault || err != c.e {
			t.Errorf("P14.1: of %x: %d steps, Retired %d, End %d, %d, not %d, %d", c.halves, n, a.Retired(), end, err, c.n, c.e)
		}
	}
}

// TestFault: what came ahead of the instruction that told the error is done, and so is what that one stored; of it the state tells nothing, what is seen does.
func TestFault(t *testing.T) {
	l := []api.Instr{
		mov(0, 0xc0), mov(1, 4), imm(api.Add, 1, 1, 0x3c, true), imm(api.Add, 2, 0, 0, true),
		imm(api.Add, 0, 0, 0x7c, true), imm(api.Str, 1, 0, 0, false), imm(api.Cmp, 0, 1, 0x41, true),
		many(api.Stm, 0, 0b110, true, false), mov(0, 1), svc(0),
	}
	x := loaded(t, l...)
	a := made(t, x, api.Script{Fuel: 99})
	if a.Step() {
		t.Error("P14.1: Step, in which there was an error")
	}
	want := api.State{Flags: api.N}
	want.R[0], want.R[1], want.R[2] = 0x13c, 0x40, 0xc0
	want.R[13], want.R[14], want.R[15] = data+0x40, 0xffffffff, code+14
	if a.State() != want {
		t.Errorf("P14.3: State at a fault %+v, not %+v", a.State(), want)
	}
	if got := seen(a.Obs()); got != " p10 p12 p14 p16 p18 p1a s13c p1c p1e s13c s140" {
		t.Errorf("P14.3: Obs at a fault:%s", got)
	}
	if v, _ := a.Mem().Load(0x13c, 4); v != 0x40 || a.Retired() != 7 {
		t.Errorf("P14.1: at a fault: what was stored %x, Retired %d", v, a.Retired())
	}
	if end, err := a.End(); end != api.Fault || err != api.ErrAccess {
		t.Errorf("P14.3: End %d, %d", end, err)
	}
}

func TestObs(t *testing.T) {
	l := []api.Instr{
		mov(0, 7), svc(1), mov(1, 0x80), imm(api.Add, 1, 1, 0x80, true), imm(api.Str, 0, 1, 8, false),
		imm(api.Ldr, 2, 1, 0, false), svc(2), svc(1), svc(3), svc(0),
	}
	a := made(t, loaded(t, l...), api.Script{In: []uint32{0x99}, Fuel: 99})
	steps(a)
	want := " p10 p12 o7 p14 p16 p18 s108 p1a l100 p1c p1e o99 p20 p22"
	if got := seen(a.Obs()); got != want {
		t.Errorf("P14.3: Obs:%s, not%s", got, want)
	}
	if s := a.State(); s.R[0] != 0x99 || s.R[2] != 0x04030201 {
		t.Errorf("P14.2: State %+v", s)
	}
	if v, _ := a.Mem().Load(data+8, 4); v != 7 {
		t.Errorf("P14.1: what was stored: %x", v)
	}
}

// TestBoundaries: where blocks begin, and nowhere else.
func TestBoundaries(t *testing.T) {
	var l []api.Instr
	for range 17 {
		l = append(l, just(api.Nop, 0))
	}
	l = append(l, to(api.Cbz, al, 0), just(api.Nop, 0), svc(7), svc(0))
	a := made(t, loaded(t, l...), api.Script{Fuel: 99})
	var got []uint32
	for a.Step() {
		got = append(got, a.State().R[15], uint32(a.Retired()))
	}
	if want := []uint32{0x30, 16, 0x36, 18, 0x38, 19, 0x3a, 20}; !slices.Equal(got, want) {
		t.Errorf("P14.1: boundaries, Retired: %x, not %x", got, want)
	}
}

// TestOverwritten: a block goes on as it was when it began; the next one is what is there by then, be it the same place again, or the same instruction.
func TestOverwritten(t *testing.T) {
	l := []api.Instr{
		imm(api.Ldr, 1, 15, 12, false), imm(api.Ldr, 0, 15, 16, false), imm(api.Str, 0, 1, 0, false),
		mov(0, 1), svc(1), to(api.B, al, -8), just(api.Nop, 0), just(api.Nop, 0),
	}
	x := loaded(t, l...)
	x.Regions[0].Write = true
	// The words: where it stores, and the store once more with a Mov of 9 behind it.
	x.Regions[0].Bytes = append(x.Regions[0].Bytes, 0x14, 0, 0, 0, 0x08, 0x60, 0x09, 0x20)
	a := made(t, x, api.Script{Fuel: 9})
	if n := steps(a); n != 4 || !slices.Equal(a.Out(), []uint32{1, 9}) {
		t.Errorf("P14.1: written over: %d steps, Out %v", n, a.Out())
	}
	want := " p10 l20 p12 l24 p14 s14 c20096008 p16 p18 o1 p1a p16 p18 o9 p1a"
	if got := seen(a.Obs()); got != want {
		t.Errorf("P14.1: written over: Obs:%s, not%s", got, want)
	}
}

// TestKeeps: what was handed in, with the room behind it, is the caller's, ahead of New and behind it.
func TestKeeps(t *testing.T) {
	l := []api.Instr{svc(2), svc(1), svc(2), svc(1), imm(api.Ldr, 0, 15, 0, false), svc(1), svc(0)}
	handler := []api.Instr{bx(14)}
	x := loaded(t, append(l, handler...)...)
	x.Regions[0].Write = true
	x.Tick = code + 14
	ticks, in := []int{1, 3, 5, 0, 1}, []uint32{4, 5, 6, 7}
	sc := api.Script{Ticks: ticks[:3], In: in[:2], Fuel: 99}
	plain := made(t, x, sc)
	steps(plain)
	a := made(t, x, sc)
	for a.Step() {
		if !slices.Equal(ticks, []int{1, 3, 5, 0, 1}) || !slices.Equal(in, []uint32{4, 5, 6, 7}) {
			t.Fatalf("P14.1: what was handed in is changed: %v, %v", ticks, in)
		}
	}
	if whole(a) != whole(plain) || !slices.Equal(a.Out(), []uint32{4, 5, 0x47700000 | 0xdf00}) {
		t.Errorf("P14.1: the same again isn't the same: %v, %v", a.Out(), plain.Out())
	}
	b := made(t, x, sc)
	ticks[0], ticks[1], ticks[2], in[0], in[1] = 0, 0, 0, 9, 9
	clear(x.Regions[0].Bytes)
	x.Regions[0], x.Regions[1] = api.Region{}, api.Region{}
	steps(b)
	if whole(b) != whole(plain) {
		t.Errorf("P14.1: what was handed in is kept:%s, not%s", whole(b), whole(plain))
	}
}

// TestTold: what is told is new each time, but for the machine's own memory.
func TestTold(t *testing.T) {
	a := made(t, loaded(t, mov(0, 7), svc(1), svc(1), svc(1), svc(1), svc(1), svc(0)), api.Script{Fuel: 99})
	own := a.Mem()
	var obs []api.Obs
	var out []uint32
	for going := true; going; going = a.Step() {
		// An answer that shared room with the machine would be written over, or would write over it.
		_, _ = append(a.Obs(), api.Obs{Kind: 9, A: 9}), append(a.Out(), 9)
		if n := len(obs); !slices.Equal(obs, a.Obs()[:n]) {
			t.Errorf("P14.3: Obs: %v, but were %v", a.Obs(), obs)
		}
		if n := len(out); !slices.Equal(out, a.Out()[:n]) {
			t.Errorf("P14.3: Out: %v, but were %v", a.Out(), out)
		}
		obs, out = a.Obs(), a.Out()
		clear(a.Obs())
		clear(a.Out())
	}
	if seen(a.Obs()) != " p10 p12 o7 p14 o7 p16 o7 p18 o7 p1a o7 p1c" || texts(a.Out()...) != " 7 7 7 7 7" {
		t.Errorf("P14.3: Obs, Out:%s,%s", seen(a.Obs()), texts(a.Out()...))
	}
	if a.Mem() != own {
		t.Error("P14.3: Mem is another one")
	}
	if sem.Return != 0xfffffff9 {
		t.Errorf("P14.2: what the handler returns to: %x", uint32(sem.Return))
	}
}

// TestApart: two machines of the same image have nothing in common.
func TestApart(t *testing.T) {
	l := []api.Instr{mov(1, 0xf0), imm(api.Add, 1, 1, 0x10, true), imm(api.Ldr, 0, 1, 0, false), imm(api.Add, 0, 0, 1, true), imm(api.Str, 0, 1, 0, false), svc(1), to(api.B, al, -16)}
	x := loaded(t, l...)
	a, b := made(t, x, api.Script{Fuel: 40}), made(t, x, api.Script{Fuel: 40})
	for range 3 {
		a.Step()
	}
	if b.Retired() != 0 || len(b.Obs()) != 0 {
		t.Errorf("P14.3: a machine that made no step: %d, %v", b.Retired(), b.Obs())
	}
	steps(a)
	steps(b)
	if whole(a) != whole(b) {
		t.Errorf("P14.3: the same again:%s, not%s", whole(b), whole(a))
	}
}
