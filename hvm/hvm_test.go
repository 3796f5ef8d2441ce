package hvm_test

import (
	"fmt"
	"math"
	"math/big"
	"math/rand"
	"reflect"
	"slices"
	"testing"

	"sourdine/api"
	"sourdine/host"
	"sourdine/hvm"
	"sourdine/mem"
)

type registers = [api.Registers]uint32

// edges: words at which what is reckoned turns over.
var edges = []uint32{0, 1, 2, 3, 7, 31, 32, 33, 63, 64, 0xff, 0x100, 0xffff, 0x10000, 0x12345678, 0x7ffffffe, 0x7fffffff, 0x80000000, 0x80000001, 0xaaaaaaaa, 0xffff0000, 0xffffffe0, 0xfffffffe, 0xffffffff}

func movI(d int, v uint32) api.Host         { return api.Host{Op: api.HMovI, D: d, Imm: v} }
func three(op, d, a, b int) api.Host        { return api.Host{Op: op, D: d, A: a, B: b} }
func load(op, d, a int, v uint32) api.Host  { return api.Host{Op: op, D: d, A: a, Imm: v} }
func store(op, a, b int, v uint32) api.Host { return api.Host{Op: op, A: a, B: b, Imm: v} }
func jmp(by int) api.Host                   { return api.Host{Op: api.HJmp, Imm: uint32(by)} }
func jz(a, by int) api.Host                 { return api.Host{Op: api.HJz, A: a, Imm: uint32(by)} }
func trap(n uint32) api.Host                { return api.Host{Op: api.HTrap, Imm: n} }

var exit = api.Host{Op: api.HExit}

// memory: bytes that may be stored to, bytes that may not, bytes that may only be stored to, and the last ones that there may be.
func memory(t *testing.T) *mem.Mem {
	t.Helper()
	m, err := mem.New([]api.Region{
		{From: 0x10, Len: 16, Read: true, Write: true, Bytes: []byte{0x81, 0x82, 0x83, 0x84, 0x85, 0x86, 0x87, 0x88}},
		{From: 0x20, Len: 4, Read: true, Bytes: []byte{1, 2, 3, 4}},
		{From: 0x30, Len: 4, Write: true},
		{From: 1<<32 - 4096 - 8, Len: 8, Read: true, Write: true, Bytes: []byte{0xf0, 0xf1, 0xf2, 0xf3}},
	})
	if err != api.OK {
		t.Fatalf("mem.New: %d", err)
	}
	return m
}

// number: one that can be told in 32 bits of exact reckoning, modulo 2^32.
func number(x *big.Int) uint32 {
	return uint32(new(big.Int).And(x, big.NewInt(0xffffffff)).Uint64())
}

// reckoned: what op puts into D of a, b, c and Imm, by exact numbers and bit by bit, so unlike the program.
func reckoned(op int, a, b, c, imm uint32) (uint32, bool) {
	ua, ub := big.NewInt(int64(a)), big.NewInt(int64(b))
	sa, sb := big.NewInt(int64(int32(a))), big.NewInt(int64(int32(b)))
	n := uint(b % 32)
	x := new(big.Int)
	yes := map[bool]uint32{true: 1}
	switch op {
	case api.HMovI:
		return imm, true
	case api.HMov:
		return a, true
	case api.HAdd:
		return number(x.Add(ua, ub)), true
	case api.HSub:
		return number(x.Sub(ua, ub)), true
	case api.HAnd:
		return number(x.And(ua, ub)), true
	case api.HOr:
		return number(x.Or(ua, ub)), true
	case api.HXor:
		return number(x.Xor(ua, ub)), true
	case api.HShl:
		return number(x.Lsh(ua, n)), true
	case api.HShr:
		return number(x.Rsh(ua, n)), true
	case api.HSar:
		return number(x.Rsh(sa, n)), true
	case api.HRor:
		return number(x.Rsh(x.Or(ua, new(big.Int).Lsh(ua, 32)), n)), true
	case api.HMul:
		return number(x.Mul(ua, ub)), true
	case api.HMulU:
		return number(x.Rsh(x.Mul(ua, ub), 32)), true
	case api.HMulS:
		return number(x.Rsh(x.Mul(sa, sb), 32)), true
	case api.HDivU, api.HDivS:
		if b == 0 {
			return 0, true
		}
		if op == api.HDivU {
			return number(x.Quo(ua, ub)), true
		}
		return number(x.Quo(sa, sb)), true
	case api.HClz:
		return uint32(32 - ua.BitLen()), true
	case api.HLtU:
		return yes[ua.Cmp(ub) < 0], true
	case api.HLtS:
		return yes[sa.Cmp(sb) < 0], true
	case api.HEq:
		return yes[ua.Cmp(ub) == 0], true
	case api.HSel:
		if c == 0 {
			return b, true
		}
		return a, true
	}
	return 0, false
}

// model: P6.1 once more, told step by step.
func model(code []api.Host, at int, r registers, m *mem.Mem, most int) hvm.Result {
	w := hvm.Result{R: r}
	place := 0
	for step := 0; ; step++ {
		w.At = place
		if place < 0 || place >= len(code) || !host.Right(code[place]) {
			w.Err = api.ErrHost
			return w
		}
		if step == max(most, 0) {
			w.Err = api.ErrSteps
			return w
		}
		h := code[place]
		e := api.Event{PC: at + place, Cost: host.Cost(h.Op)}
		a := w.R[h.A] + h.Imm
		size := uint32(host.Loads(h.Op) + host.Stores(h.Op))
		if size > 0 {
			e.Addr = a
		}
		w.Events = append(w.Events, e)
		next := place + 1
		v, sets := reckoned(h.Op, w.R[h.A], w.R[h.B], w.R[h.C], h.Imm)
		switch h.Op {
		case api.HLd1, api.HLd2, api.HLd4:
			v, w.Err = m.Load(a, size)
			sets = w.Err == api.OK
		case api.HSt1, api.HSt2, api.HSt4:
			w.Err = m.Store(a, size, w.R[h.B])
		case api.HJmp:
			next = place + int(int32(h.Imm))
		case api.HJz:
			if w.R[h.A] == 0 {
				next = place + int(int32(h.Imm))
			}
		case api.HTrap:
			w.Err = api.Errno(h.Imm)
		}
		if sets {
			w.R[h.D] = v
		}
		if w.Err != api.OK || h.Op == api.HExit {
			return w
		}
		place = next
	}
}

// same: whether two runs came to the same (a nil list is an empty one).
func same(a, b hvm.Result) bool {
	return a.R == b.R && a.Err == b.Err && a.At == b.At && slices.Equal(a.Events, b.Events)
}

// P6.1: what each kind reckons, at all edges, from any registers to any, and that all others stay.
func TestReckoned(t *testing.T) {
	var r registers
	for i := range r {
		r[i] = 0x01010101 * uint32(i)
	}
	for op := api.HMovI; op <= api.HSel; op++ {
		for _, regs := range [][4]int{{31, 3, 4, 5}, {3, 3, 4, 5}, {4, 3, 4, 5}, {5, 3, 4, 5}, {0, 31, 30, 29}, {7, 0, 1, 2}} {
			for _, a := range edges {
				for _, b := range edges {
					h := api.Host{Op: op, D: regs[0]}
					from := r
					from[regs[1]], from[regs[2]], from[regs[3]] = a, b, a^b
					imm := uint32(0)
					if op == api.HMovI {
						h.Imm, imm = a, a
					} else {
						h.A = regs[1]
					}
					if op != api.HMovI && op != api.HMov && op != api.HClz {
						h.B = regs[2]
					}
					if op == api.HSel {
						h.C = regs[3]
					}
					want := from
					want[h.D], _ = reckoned(op, a, b, a^b, imm)
					got := hvm.Run([]api.Host{h, exit}, 40, from, nil, 2)
					events := []api.Event{{PC: 40, Cost: host.Cost(op)}, {PC: 41, Cost: 4}}
					if !same(got, hvm.Result{R: want, Events: events, At: 1}) {
						t.Fatalf("P6.1: %+v of %x, %x: %+v, want R %x", h, a, b, got, want)
					}
				}
			}
		}
	}
}

// P6.1: results that were reckoned by hand, so that no slip of the model's is shared.
func TestReckonedByHand(t *testing.T) {
	for _, x := range []struct {
		op         int
		a, b, want uint32
	}{
		{api.HAdd, 0xffffffff, 1, 0}, {api.HSub, 0, 1, 0xffffffff},
		{api.HShl, 1, 31, 0x80000000}, {api.HShl, 1, 32, 1}, {api.HShl, 1, 0xffffffff, 0x80000000},
		{api.HShr, 0x80000000, 31, 1}, {api.HShr, 0x80000000, 32, 0x80000000},
		{api.HSar, 0x80000000, 31, 0xffffffff}, {api.HSar, 0x80000000, 64, 0x80000000}, {api.HSar, 0x40000000, 30, 1},
		{api.HRor, 1, 1, 0x80000000}, {api.HRor, 0x12345678, 8, 0x78123456}, {api.HRor, 0x12345678, 32, 0x12345678},
		{api.HMul, 0xffffffff, 0xffffffff, 1}, {api.HMulU, 0xffffffff, 0xffffffff, 0xfffffffe},
		{api.HMulS, 0xffffffff, 0xffffffff, 0}, {api.HMulS, 0x80000000, 0x80000000, 0x40000000}, {api.HMulS, 0x80000000, 1, 0xffffffff},
		{api.HDivU, 7, 2, 3}, {api.HDivU, 7, 0, 0}, {api.HDivU, 0x80000000, 0xffffffff, 0},
		{api.HDivS, 0xfffffff9, 2, 0xfffffffd}, {api.HDivS, 7, 0xfffffffe, 0xfffffffd}, {api.HDivS, 0x80000000, 0, 0}, {api.HDivS, 0x80000000, 0xffffffff, 0x80000000},
		{api.HLtU, 0x7fffffff, 0x80000000, 1}, {api.HLtU, 0x80000000, 0x7fffffff, 0}, {api.HLtU, 5, 5, 0},
		{api.HLtS, 0x7fffffff, 0x80000000, 0}, {api.HLtS, 0x80000000, 0x7fffffff, 1}, {api.HLtS, 5, 5, 0},
		{api.HEq, 0, 0, 1}, {api.HEq, 0x80000000, 0, 0},
	} {
		got := hvm.Run([]api.Host{three(x.op, 9, 1, 2), exit}, 0, registers{1: x.a, 2: x.b}, nil, 2)
		if got.R[9] != x.want {
			t.Errorf("P6.1: %s of %x, %x: %x, want %x", host.Name(x.op), x.a, x.b, got.R[9], x.want)
		}
	}
}

// P6.1: loads, at all edges: widened by noughts, the address modulo 2^32, the register it came from gone over.
func TestLoads(t *testing.T) {
	const last = 1<<32 - 4096 - 8
	for _, x := range []struct {
		op      int
		a, imm  uint32
		v, addr uint32
		err     api.Errno
	}{
		{api.HLd1, 0x10, 0, 0x81, 0x10, 0}, {api.HLd1, 0x10, 1, 0x82, 0x11, 0}, {api.HLd1, 0x10, 15, 0, 0x1f, 0},
		{api.HLd2, 0x10, 2, 0x8483, 0x12, 0}, {api.HLd4, 0x10, 4, 0x88878685, 0x14, 0}, {api.HLd4, 0x20, 0, 0x04030201, 0x20, 0},
		{api.HLd1, 0x14, 0xffffffff, 0x84, 0x13, 0}, {api.HLd4, 0xffffffff, 0x11, 0x84838281, 0x10, 0}, {api.HLd4, last, 0, 0xf3f2f1f0, last, 0},
		{api.HLd2, 0x10, 1, 0, 0x11, api.ErrAlign}, {api.HLd4, 0x10, 2, 0, 0x12, api.ErrAlign}, {api.HLd4, 0x11, 0, 0, 0x11, api.ErrAlign}, {api.HLd4, 0xffffffff, 0, 0, 0xffffffff, api.ErrAlign},
		{api.HLd1, 0x10, 0xffffffff, 0, 0xf, api.ErrAccess}, {api.HLd4, 0x24, 0, 0, 0x24, api.ErrAccess}, {api.HLd4, 0x30, 0, 0, 0x30, api.ErrAccess},
		{api.HLd1, last, 8, 0, last + 8, api.ErrAccess}, {api.HLd4, 0, 0, 0, 0, api.ErrAccess},
	} {
		for _, d := range []int{0, 5, 6, 31} {
			m := memory(t)
			then := m.Copy()
			r := registers{0: 0xdeadbeef, 5: x.a, 6: 0xdeadbeef, 31: 0xdeadbeef}
			want := hvm.Result{R: r, Err: x.err, Events: []api.Event{{PC: 3, Addr: x.addr, Cost: 2}}}
			if x.err == api.OK {
				want.R[d], want.At = x.v, 1
				want.Events = append(want.Events, api.Event{PC: 4, Cost: 4})
			}
			if got := hvm.Run([]api.Host{load(x.op, d, 5, x.imm), exit}, 3, r, m, 9); !same(got, want) {
				t.Errorf("P6.1: %s at %x + %x: %+v, want %+v", host.Name(x.op), x.a, x.imm, got, want)
			}
			if !m.Same(then) {
				t.Errorf("P6.1: %s at %x + %x stored", host.Name(x.op), x.a, x.imm)
			}
		}
	}
}

// P6.1: stores, at all edges: the lowest bytes, no others, and no register.
func TestStores(t *testing.T) {
	const v = 0xa1b2c3d4
	for _, x := range []struct {
		op     int
		a, imm uint32
		addr   uint32
		size   uint32
		err    api.Errno
	}{
		{api.HSt1, 0x10, 0, 0x10, 1, 0}, {api.HSt1, 0x10, 15, 0x1f, 1, 0}, {api.HSt2, 0x10, 6, 0x16, 2, 0}, {api.HSt4, 0x10, 12, 0x1c, 4, 0},
		{api.HSt4, 0x18, 0xfffffff8, 0x10, 4, 0}, {api.HSt2, 0xfffffffe, 0x32, 0x30, 2, 0}, {api.HSt4, 1<<32 - 4096 - 4, 0, 1<<32 - 4096 - 4, 4, 0},
		{api.HSt2, 0x10, 3, 0x13, 2, api.ErrAlign}, {api.HSt4, 0x10, 2, 0x12, 4, api.ErrAlign}, {api.HSt4, 0x21, 0, 0x21, 4, api.ErrAlign},
		{api.HSt1, 0x20, 0, 0x20, 1, api.ErrAccess}, {api.HSt4, 0x20, 0, 0x20, 4, api.ErrAccess}, {api.HSt1, 0x0f, 0, 0x0f, 1, api.ErrAccess}, {api.HSt2, 0x24, 0, 0x24, 2, api.ErrAccess},
	} {
		m := memory(t)
		then := m.Copy()
		r := registers{5: x.a, 6: v, 7: 1}
		want := hvm.Result{R: r, Err: x.err, Events: []api.Event{{Addr: x.addr, Cost: 2}}}
		if x.err == api.OK {
			want.At = 1
			want.Events = append(want.Events, api.Event{PC: 1, Cost: 4})
			if err := then.Store(x.addr, x.size, v); err != api.OK {
				t.Fatalf("mem.Store at %x: %d", x.addr, err)
			}
		}
		if got := hvm.Run([]api.Host{store(x.op, 5, 6, x.imm), exit}, 0, r, m, 9); !same(got, want) {
			t.Errorf("P6.1: %s at %x + %x: %+v, want %+v", host.Name(x.op), x.a, x.imm, got, want)
		}
		for i := range m.Regions() {
			if now := m.Bytes(i); !slices.Equal(now, then.Bytes(i)) {
				t.Errorf("P6.1: %s at %x + %x: region %d: %x, want %x", host.Name(x.op), x.a, x.imm, i, now, then.Bytes(i))
			}
		}
	}
}

// P6.1: what was stored is loaded in the same run, and stays done whatever the run ends with.
func TestStoresStay(t *testing.T) {
	for _, x := range []struct {
		name string
		last []api.Host
		most int
		err  api.Errno
	}{
		{"HExit", []api.Host{exit}, 9, 0},
		{"HTrap", []api.Host{trap(7)}, 9, 7},
		{"a load's error", []api.Host{load(api.HLd4, 3, 0, 0)}, 9, api.ErrAccess},
		{"a store's error", []api.Host{store(api.HSt4, 0, 2, 1)}, 9, api.ErrAlign},
		{"ErrHost", nil, 9, api.ErrHost},
		{"ErrSteps", []api.Host{exit}, 2, api.ErrSteps},
	} {
		m := memory(t)
		code := append([]api.Host{store(api.HSt4, 1, 2, 4), load(api.HLd2, 4, 1, 6)}, x.last...)
		got := hvm.Run(code, 0, registers{1: 0x10, 2: 0x99aabbcc}, m, x.most)
		if got.Err != x.err || got.R[4] != 0x99aa {
			t.Errorf("P6.1: %s: %+v", x.name, got)
		}
		if v, _ := m.Load(0x14, 4); v != 0x99aabbcc {
			t.Errorf("P6.1: behind %s: %x", x.name, v)
		}
	}
}

// P6.1: a memory nil has no regions: what isn't a multiple is told ahead of what isn't there.
func TestNoMemory(t *testing.T) {
	empty, _ := mem.New(nil)
	for _, m := range []*mem.Mem{nil, empty} {
		for _, x := range []struct {
			h   api.Host
			err api.Errno
		}{
			{load(api.HLd1, 2, 1, 0), api.ErrAccess}, {load(api.HLd2, 2, 1, 0), api.ErrAlign}, {load(api.HLd2, 2, 1, 1), api.ErrAccess}, {load(api.HLd4, 2, 1, 1), api.ErrAlign},
			{store(api.HSt1, 1, 2, 0), api.ErrAccess}, {store(api.HSt2, 1, 2, 0), api.ErrAlign}, {store(api.HSt4, 1, 2, 1), api.ErrAlign}, {store(api.HSt4, 1, 2, 3), api.ErrAccess},
		} {
			r := registers{1: 0x101, 2: 8}
			want := hvm.Result{R: r, Err: x.err, Events: []api.Event{{Addr: 0x101 + x.h.Imm, Cost: 2}}}
			if got := hvm.Run([]api.Host{x.h, exit}, 0, r, m, 9); !same(got, want) {
				t.Errorf("P6.1: %+v without regions: %+v", x.h, got)
			}
		}
	}
}

// P6.1: where a jump goes to, in the code and out of it.
func TestJumps(t *testing.T) {
	long := func(h api.Host, at int) []api.Host {
		code := slices.Repeat([]api.Host{exit}, 9)
		code[0], code[at] = jmp(at), h
		if at == 0 {
			code[0] = h
		}
		return code
	}
	for _, from := range []int{0, 4, 8} {
		for _, by := range []int{-9, -8, -5, -4, -1, 1, 4, 5, 8, 9, math.MaxInt32, math.MinInt32} {
			for _, x := range []struct {
				h  api.Host
				to int
			}{{jmp(by), from + by}, {jz(1, by), from + by}, {jz(2, by), from + 1}} {
				if x.to == 0 && from != 0 {
					continue // that goes on for ever: below
				}
				got := hvm.Run(long(x.h, from), 0, registers{2: 0x80000000}, nil, 9)
				want := api.OK
				if x.to < 0 || x.to > 8 {
					want = api.ErrHost
				}
				if got.Err != want || got.At != x.to {
					t.Errorf("P6.1: %+v at %d: %d at %d, want %d at %d", x.h, from, got.Err, got.At, want, x.to)
				}
			}
		}
	}
	for _, code := range [][]api.Host{{jmp(0)}, {jz(1, 0), exit}, {jmp(1), jmp(-1)}, {movI(1, 0), jz(1, -1)}} {
		if got := hvm.Run(code, 0, registers{}, nil, 1001); got.Err != api.ErrSteps || len(got.Events) != 1001 {
			t.Errorf("P6.1: for ever: %d, %d Events", got.Err, len(got.Events))
		}
	}
}

// P6.1: HExit and each HTrap end it, with an Event, whatever follows.
func TestEnds(t *testing.T) {
	for n := uint32(0); n <= 99; n++ {
		h := trap(n)
		if n == 0 {
			h = exit
		}
		r := registers{3: n}
		want := hvm.Result{R: r, Err: api.Errno(n), At: 1, Events: []api.Event{{PC: 10, Cost: 2}, {PC: 11, Cost: 4}}}
		for _, most := range []int{2, 3, math.MaxInt} {
			if got := hvm.Run([]api.Host{jmp(1), h, movI(3, 5), {}}, 10, r, nil, most); !same(got, want) {
				t.Errorf("P6.1: HTrap %d: %+v", n, got)
			}
		}
	}
}

// wrong: instructions that aren't Right, each by one thing alone.
func wrong() []api.Host {
	l := []api.Host{{}, {Op: -1}, {Op: api.HOps}, {Op: math.MaxInt}, {Op: math.MinInt}, trap(0), trap(100), trap(math.MaxUint32), {Op: api.HExit, Imm: 1}, {Op: api.HMov, Imm: 1}}
	for op := 1; op < api.HOps; op++ {
		least := api.Host{Op: op}
		if op == api.HTrap {
			least.Imm = 1
		}
		for _, n := range []int{-1, api.Registers, math.MaxInt, math.MinInt} {
			for _, h := range []api.Host{least, least, least, least} {
				l = append(l, h)
			}
			l[len(l)-4].D, l[len(l)-3].A, l[len(l)-2].B, l[len(l)-1].C = n, n, n, n
		}
	}
	return l
}

// P6.1: one that isn't Right is told where it stands, has no Event, and harms nothing where it isn't come to.
func TestNotRight(t *testing.T) {
	for _, h := range wrong() {
		if host.Right(h) {
			t.Fatalf("%+v is Right", h)
		}
		r := registers{1: 4}
		for _, most := range []int{-1, 0, 9} {
			if got := hvm.Run([]api.Host{h, exit}, 5, r, nil, most); !same(got, hvm.Result{R: r, Err: api.ErrHost}) {
				t.Errorf("P6.1: %+v first: %+v", h, got)
			}
		}
		want := hvm.Result{R: registers{1: 9}, Err: api.ErrHost, At: 1, Events: []api.Event{{PC: 5, Cost: 1}}}
		for _, most := range []int{1, 2, 9} {
			if got := hvm.Run([]api.Host{movI(1, 9), h}, 5, r, nil, most); !same(got, want) {
				t.Errorf("P6.1: %+v second, most %d: %+v", h, most, got)
			}
		}
		if got := hvm.Run([]api.Host{jmp(2), h, exit, h}, 0, r, nil, 9); got.Err != api.OK || got.At != 2 {
			t.Errorf("P6.1: %+v beside: %+v", h, got)
		}
	}
}

// P6.1: no code, and code that ends without an end: ErrHost goes ahead of ErrSteps.
func TestNoPlace(t *testing.T) {
	r := registers{0: 1, 31: 2}
	for _, most := range []int{math.MinInt, -1, 0, 1, math.MaxInt} {
		for _, code := range [][]api.Host{nil, {}} {
			if got := hvm.Run(code, 7, r, nil, most); !same(got, hvm.Result{R: r, Err: api.ErrHost}) {
				t.Errorf("P6.1: no code, most %d: %+v", most, got)
			}
		}
	}
	for _, x := range []struct {
		h  api.Host
		at int
	}{{movI(0, 1), 1}, {jz(0, 5), 1}, {jz(1, 5), 5}, {jmp(-3), -3}, {jmp(1), 1}} {
		for most := 0; most < 3; most++ {
			got := hvm.Run([]api.Host{x.h}, 0, r, nil, most)
			want, at, n := api.ErrHost, x.at, 1
			if most == 0 {
				want, at, n = api.ErrSteps, 0, 0
			}
			if got.Err != want || got.At != at || len(got.Events) != n {
				t.Errorf("P6.1: %+v alone, most %d: %+v", x.h, most, got)
			}
		}
	}
}

// P6.1: most: just as many as are asked for, one fewer, none, fewer than none.
func TestSteps(t *testing.T) {
	r := registers{1: 4, 2: 1}
	loop := []api.Host{jz(1, 4), three(api.HSub, 1, 1, 2), three(api.HAdd, 3, 3, 1), jmp(-3), exit}
	whole := hvm.Run(loop, 0, r, nil, math.MaxInt)
	if whole.Err != api.OK || whole.At != 4 || whole.R[3] != 6 || len(whole.Events) != 4*4+2 {
		t.Fatalf("P6.1: a loop: %+v", whole)
	}
	for most := -2; most <= len(whole.Events)+2; most++ {
		got := hvm.Run(loop, 0, r, nil, most)
		done := min(max(most, 0), len(whole.Events))
		if !slices.Equal(got.Events, whole.Events[:done]) {
			t.Errorf("P6.1: most %d: %d Events", most, len(got.Events))
		}
		if most >= len(whole.Events) {
			if !same(got, whole) {
				t.Errorf("P6.1: most %d: %+v", most, got)
			}
		} else if got.Err != api.ErrSteps || got.At != whole.Events[done].PC {
			t.Errorf("P6.1: most %d: %d at %d", most, got.Err, got.At)
		}
	}
	if got := hvm.Run(loop, 0, r, nil, math.MinInt); !same(got, hvm.Result{R: r, Err: api.ErrSteps}) {
		t.Errorf("P6.1: the least most: %+v", got)
	}
}

// P6.1: a place of the host's memory: any; one that fits no int is the greatest.
func TestAt(t *testing.T) {
	code := []api.Host{movI(1, 1), jmp(1), exit}
	for _, x := range []struct {
		at   int
		want [3]int
	}{
		{0, [3]int{0, 1, 2}}, {5, [3]int{5, 6, 7}}, {-1, [3]int{-1, 0, 1}}, {math.MinInt, [3]int{math.MinInt, math.MinInt + 1, math.MinInt + 2}},
		{math.MaxInt - 2, [3]int{math.MaxInt - 2, math.MaxInt - 1, math.MaxInt}}, {math.MaxInt - 1, [3]int{math.MaxInt - 1, math.MaxInt, math.MaxInt}}, {math.MaxInt, [3]int{math.MaxInt, math.MaxInt, math.MaxInt}},
	} {
		got := hvm.Run(code, x.at, registers{}, nil, 3)
		if got.Err != api.OK || got.At != 2 || len(got.Events) != 3 {
			t.Fatalf("P6.1: at %d: %+v", x.at, got)
		}
		for i, e := range got.Events {
			if e.PC != x.want[i] {
				t.Errorf("P6.1: at %d: Event %d: PC %d", x.at, i, e.PC)
			}
		}
	}
}

// P6.2: all Costs together, exactly.
func TestTotal(t *testing.T) {
	const most, least = math.MaxInt, math.MinInt
	for _, x := range []struct {
		costs []int
		want  int
	}{
		{nil, 0}, {[]int{}, 0}, {[]int{4}, 4}, {[]int{1, 2, 3, 12, 0}, 18}, {[]int{-5, 3}, -2},
		{[]int{most, 1, -1}, most}, {[]int{most, most, least, least, 2}, 0}, {[]int{least, -1, 1}, least}, {[]int{most, least}, -1},
		{[]int{most, 0}, most}, {[]int{least, 0}, least}, {[]int{most, 1}, most}, {[]int{most, most, most}, most}, {[]int{least, -1}, least}, {[]int{least, least}, least},
	} {
		var l []api.Event
		for i, c := range x.costs {
			l = append(l, api.Event{PC: 100 * i, Addr: uint32(1000 * i), Cost: c})
		}
		then := slices.Clone(l)
		if got := hvm.Total(l); got != x.want || !slices.Equal(l, then) {
			t.Errorf("P6.2: Total of %v: %d, want %d", x.costs, got, x.want)
		}
	}
}

// P6.2, P6.3: every kind, run over quite other values, is seen alike; where an address or an HJz differs, that is seen.
func TestEventsHangOnNoValue(t *testing.T) {
	code := []api.Host{
		{Op: api.HMov, D: 8, A: 3}, three(api.HAdd, 9, 3, 4), three(api.HSub, 9, 9, 4), three(api.HAnd, 10, 3, 4), three(api.HOr, 10, 3, 4), three(api.HXor, 10, 10, 9),
		three(api.HShl, 11, 3, 4), three(api.HShr, 11, 11, 4), three(api.HSar, 11, 11, 3), three(api.HRor, 11, 11, 4),
		three(api.HMul, 12, 3, 4), three(api.HMulU, 12, 12, 4), three(api.HMulS, 12, 12, 3), three(api.HDivU, 13, 3, 4), three(api.HDivS, 13, 13, 4),
		{Op: api.HClz, D: 14, A: 3}, three(api.HLtU, 14, 3, 4), three(api.HLtS, 14, 3, 4), three(api.HEq, 15, 3, 4), {Op: api.HSel, D: 15, A: 3, B: 4, C: 15},
		store(api.HSt4, 1, 3, 0), store(api.HSt2, 1, 4, 4), store(api.HSt1, 1, 15, 7), load(api.HLd4, 16, 1, 0), load(api.HLd2, 16, 1, 4), load(api.HLd1, 16, 1, 7),
		jz(2, 2), exit, jmp(1), trap(50),
	}
	first := hvm.Run(code, 20, registers{1: 0x10}, memory(t), 99)
	if first.Err != 50 || len(first.Events) != len(code)-1 || hvm.Total(first.Events) != 1*15+3*3+2*12+6*2+2*2+4 {
		t.Fatalf("P6.2: %+v, %d", first, hvm.Total(first.Events))
	}
	for _, a := range edges {
		for _, b := range edges {
			r := registers{1: 0x10, 3: a, 4: b, 8: b, 9: a, 16: ^a}
			if got := hvm.Run(code, 20, r, memory(t), 99); !slices.Equal(got.Events, first.Events) {
				t.Fatalf("P6.2: of %x, %x: %v, want %v", a, b, got.Events, first.Events)
			}
		}
	}
	if got := hvm.Run(code, 20, registers{1: 0x18}, memory(t), 99); slices.Equal(got.Events, first.Events) {
		t.Error("P6.3: other addresses aren't seen")
	}
	if got := hvm.Run(code, 20, registers{1: 0x10, 2: 1}, memory(t), 99); slices.Equal(got.Events, first.Events) {
		t.Error("P6.3: an HJz that goes otherwise isn't seen")
	}
}

// random: code that is mostly Right, with loads and stores near memory and jumps near the code.
func random(x *rand.Rand) []api.Host {
	code := make([]api.Host, x.Intn(12))
	for i := range code {
		d, a, b, c, imm := x.Intn(8), x.Intn(8), x.Intn(8), x.Intn(8), uint32(x.Intn(24))
		h := api.Host{Op: 1 + x.Intn(api.HOps-1)}
		switch h.Op {
		case api.HMovI:
			h = movI(d, imm)
		case api.HMov, api.HClz:
			h.D, h.A = d, a
		case api.HSel:
			h.D, h.A, h.B, h.C = d, a, b, c
		case api.HLd1, api.HLd2, api.HLd4:
			h = load(h.Op, d, a, imm)
		case api.HSt1, api.HSt2, api.HSt4:
			h = store(h.Op, a, b, imm)
		case api.HJmp:
			h = jmp(int(imm) - 8)
		case api.HJz:
			h = jz(a, int(imm)-8)
		case api.HTrap:
			h = trap(imm % 4)
		case api.HExit:
		default:
			h = three(h.Op, d, a, b)
		}
		if x.Intn(40) == 0 {
			h.C++
		}
		code[i] = h
	}
	return code
}

// P6.1: code at random, held against the model: registers, Events, error, place, memory; the same again.
func TestAtRandom(t *testing.T) {
	x := rand.New(rand.NewSource(6))
	ends := map[api.Errno]int{}
	for range 60000 {
		code := random(x)
		var r registers
		for i := range r {
			r[i] = []uint32{x.Uint32(), uint32(x.Intn(4)), 0x10 + uint32(x.Intn(16)), 0x20, edges[x.Intn(len(edges))]}[x.Intn(5)]
		}
		at, most := x.Intn(2000)-1000, x.Intn(60)-1
		m, again, its := memory(t), memory(t), memory(t)
		want := model(code, at, r, its, most)
		got := hvm.Run(code, at, r, m, most)
		ends[got.Err]++
		if !same(got, want) || !m.Same(its) {
			t.Fatalf("P6.1: %+v at %d of %x, most %d:\n%+v, want\n%+v", code, at, r, most, got, want)
		}
		if twice := hvm.Run(code, at, r, again, most); !reflect.DeepEqual(twice, got) || !again.Same(m) {
			t.Fatalf("P6.1: %+v: again %+v", code, twice)
		}
	}
	for _, e := range []api.Errno{api.OK, 1, api.ErrAccess, api.ErrAlign, api.ErrHost, api.ErrSteps} {
		if ends[e] < 200 {
			t.Errorf("error %d was met only %d times", e, ends[e])
		}
	}
}

// P6.1: whatever is handed in, it ends; what was handed in stays, the room behind it too, and nothing of an answer is kept.
func TestNothingKept(t *testing.T) {
	room := []api.Host{movI(1, 5), three(api.HAdd, 2, 1, 1), exit, {Op: 77}, {Op: 78}}
	then := slices.Clone(room)
	code := room[:3]
	r := registers{1: 1, 2: 2}
	got := hvm.Run(code, 0, r, nil, 9)
	if !slices.Equal(room, then) || r != (registers{1: 1, 2: 2}) {
		t.Errorf("P6.1: changed: %+v, %v", room, r)
	}
	told := fmt.Sprint(got)
	other := hvm.Run(code, 0, r, nil, 9)
	for i := range other.Events {
		other.Events[i] = api.Event{PC: -1}
	}
	_ = append(other.Events, api.Event{PC: -2})
	if fmt.Sprint(got) != told || fmt.Sprint(hvm.Run(code, 0, r, nil, 9)) != told {
		t.Error("P6.1: two answers share memory")
	}
}

// P6.1: whatever instructions, whatever numbers: it ends, and does not panic.
func TestAnything(t *testing.T) {
	x := rand.New(rand.NewSource(66))
	odd := []int{0, 1, 5, 31, 32, -1, 33, math.MaxInt, math.MinInt, math.MaxInt32, math.MinInt32}
	pick := func() int { return odd[x.Intn(len(odd))] }
	for range 40000 {
		code := make([]api.Host, x.Intn(4))
		for i := range code {
			code[i] = api.Host{Op: x.Intn(api.HOps + 1), D: pick() & 63, A: pick() & 63, B: 0, C: 0, Imm: uint32(pick())}
			if x.Intn(4) == 0 {
				code[i] = api.Host{Op: pick(), D: pick(), A: pick(), B: pick(), C: pick(), Imm: x.Uint32()}
			}
		}
		var r registers
		for i := range r {
			r[i] = uint32(pick())
		}
		most := min(pick(), 100)
		got := hvm.Run(code, pick(), r, memory(t), most)
		if len(got.Events) > max(most, 0) {
			t.Fatalf("P6.1: %+v: %d Events, most %d", code, len(got.Events), most)
		}
	}
}
