package mem_test

import (
	"bytes"
	"math/rand"
	"slices"
	"testing"

	"sourdine/api"
	"sourdine/mem"
)

// reg: a region; how has a letter of "rwxs" for each thing that it is.
func reg(from, size uint32, how string, b ...byte) api.Region {
	has := func(c rune) bool { return slices.Contains([]rune(how), c) }
	return api.Region{From: from, Len: size, Read: has('r'), Write: has('w'), Exec: has('x'), Secret: has('s'), Bytes: b}
}

// made: memory of l, which must be a right list.
func made(t *testing.T, l ...api.Region) *mem.Mem {
	t.Helper()
	m, err := mem.New(l)
	if err != api.OK || m == nil {
		t.Fatalf("P4.1: New(%+v): %v, %d", l, m, err)
	}
	return m
}

// alike: whether two lists of regions are, Bytes and all.
func alike(a, b []api.Region) bool {
	return slices.EqualFunc(a, b, func(x, y api.Region) bool {
		same := bytes.Equal(x.Bytes, y.Bytes) && x.From == y.From && x.Len == y.Len
		return same && x.Read == y.Read && x.Write == y.Write && x.Exec == y.Exec && x.Secret == y.Secret
	})
}

// firm: regions of all kinds, some of them side by side.
func firm() []api.Region {
	return []api.Region{
		reg(8, 8, "r", 1, 2, 3, 0x84, 0x85),
		reg(16, 8, "rwx", 0x10, 0x11, 0x12, 0x13, 0x14, 0x15, 0x96, 0x97),
		reg(32, 4, "ws", 0x20, 0x21),
		reg(40, 4, "rws", 0xa0, 0xa1, 0xa2, 0xa3),
		reg(44, 4, "rw"),
		reg(56, 4, "x", 0x30, 0xb1),
		reg(64, 4, "", 9, 9, 9, 9),
		reg(0xffffeffc, 4, "rwx", 0xfc, 0xfd, 0xfe, 0xff),
	}
}

func TestNewOfWrongLists(t *testing.T) {
	many := []api.Region{}
	for i := range uint32(9) {
		many = append(many, reg(16*i, 4, "r"))
	}
	for i, x := range []struct {
		l    []api.Region
		want api.Errno
	}{
		{many, api.ErrLimit},
		{[]api.Region{reg(0, 65540, "rw")}, api.ErrLimit},
		{[]api.Region{reg(1, 0, "xs"), reg(0, 65540, "rw")}, api.ErrLimit},
		{[]api.Region{reg(0, 0xffffffff, "rw")}, api.ErrLimit},
		{[]api.Region{reg(0, 0, "rw")}, api.ErrRegion},
		{[]api.Region{reg(2, 4, "rw")}, api.ErrRegion},
		{[]api.Region{reg(0, 6, "rw")}, api.ErrRegion},
		{[]api.Region{reg(0, 4, "rw", 1, 2, 3, 4, 5)}, api.ErrRegion},
		{[]api.Region{reg(0, 4, "xs")}, api.ErrRegion},
		{[]api.Region{reg(8, 4, "r"), reg(8, 4, "r")}, api.ErrRegion},
		{[]api.Region{reg(8, 4, "r"), reg(0, 4, "r")}, api.ErrRegion},
		{[]api.Region{reg(0xffffeffc, 8, "r")}, api.ErrRegion},
		{[]api.Region{reg(0xfffffffc, 4, "r")}, api.ErrRegion},
	} {
		if m, err := mem.New(x.l); m != nil || err != x.want {
			t.Errorf("P4.1: New of wrong list %d: %v, %d, not %d", i, m, err, x.want)
		}
	}
}

func TestNewOfNone(t *testing.T) {
	for _, l := range [][]api.Region{nil, {}} {
		m := made(t, l...)
		if len(m.Regions()) != 0 || len(m.Bytes(0)) != 0 {
			t.Errorf("P4.1: of none: %v, %v", m.Regions(), m.Bytes(0))
		}
		for _, a := range []uint32{0, 4, 0xfffffffc} {
			if v, err := m.Load(a, 4); v != 0 || err != api.ErrAccess {
				t.Errorf("P4.1: Load of none: %d, %d", v, err)
			}
			if err := m.Store(a, 4, 1); err != api.ErrAccess {
				t.Errorf("P4.1: Store of none: %d", err)
			}
			if v, err := m.Half(a); v != 0 || err != api.ErrExec {
				t.Errorf("P4.1: Half of none: %d, %d", v, err)
			}
		}
		if v, err := m.Load(1, 4); v != 0 || err != api.ErrAlign {
			t.Errorf("P4.1: Load at 1 of none: %d, %d", v, err)
		}
	}
}

// TestNewFills: behind Bytes there are noughts, whatever lies in the room behind the list.
func TestNewFills(t *testing.T) {
	all := []byte{1, 2, 3, 4, 5, 6, 7, 8, 9}
	m := made(t, reg(8, 8, "rw", all[:3]...), reg(16, 4, "r", all[4:8]...), reg(24, 4, "r"))
	want := [][]byte{{1, 2, 3, 0, 0, 0, 0, 0}, {5, 6, 7, 8}, {0, 0, 0, 0}}
	for i, w := range want {
		if got := m.Bytes(i); !bytes.Equal(got, w) {
			t.Errorf("P4.1: Bytes(%d): %v, not %v", i, got, w)
		}
	}
	for _, a := range []uint32{8, 12} {
		if err := m.Store(a, 4, 0xffffffff); err != api.OK {
			t.Errorf("P4.1: Store at %d: %d", a, err)
		}
	}
	if !bytes.Equal(all, []byte{1, 2, 3, 4, 5, 6, 7, 8, 9}) {
		t.Errorf("P4.1: what was handed in was changed: %v", all)
	}
}

func TestTheMost(t *testing.T) {
	big := reg(0xfffef000, 65536, "rwx")
	big.Bytes = bytes.Repeat([]byte{0x5a}, 65535)
	m := made(t, big)
	if v, err := m.Load(0xffffeffc, 4); v != 0x005a5a5a || err != api.OK {
		t.Errorf("P4.1: the last word: %#x, %d", v, err)
	}
	if v, err := m.Half(0xffffeffe); v != 0x005a || err != api.OK {
		t.Errorf("P4.1: the last half: %#x, %d", v, err)
	}
	if err := m.Store(0xffffefff, 1, 0x1234); err != api.OK {
		t.Errorf("P4.1: Store of the last byte: %d", err)
	}
	if err := m.Store(0xfffff000, 1, 1); err != api.ErrAccess {
		t.Errorf("P4.1: Store behind the last byte: %d", err)
	}
	if b := m.Bytes(0); len(b) != 65536 || b[65535] != 0x34 || b[65534] != 0x5a || b[0] != 0x5a {
		t.Errorf("P4.1: %d bytes", len(b))
	}
}

func TestLoadByHand(t *testing.T) {
	m := made(t, firm()...)
	acc, ali := api.ErrAccess, api.ErrAlign
	for _, x := range []struct {
		a, size, v uint32
		err        api.Errno
	}{
		{8, 4, 0x84030201, 0}, {8, 2, 0x0201, 0}, {10, 2, 0x8403, 0}, {8, 1, 1, 0}, {11, 1, 0x84, 0},
		{12, 4, 0x85, 0}, {12, 1, 0x85, 0}, {13, 1, 0, 0}, {14, 2, 0, 0}, {15, 1, 0, 0},
		{8, 0, 0x84030201, 0}, {8, 3, 0x84030201, 0}, {8, 8, 0x84030201, 0}, {8, 0xffffffff, 0x84030201, 0},
		{16, 4, 0x13121110, 0}, {20, 4, 0x97961514, 0}, {23, 1, 0x97, 0}, {22, 2, 0x9796, 0},
		{40, 4, 0xa3a2a1a0, 0}, {44, 4, 0, 0},
		{0xffffeffc, 4, 0xfffefdfc, 0}, {0xffffefff, 1, 0xff, 0}, {0xffffeffe, 2, 0xfffe, 0},
		{14, 4, 0, ali}, {9, 2, 0, ali}, {9, 4, 0, ali}, {10, 4, 0, ali}, {10, 3, 0, ali}, {25, 2, 0, ali}, {0xffffffff, 4, 0, ali},
		{4, 4, 0, acc}, {6, 2, 0, acc}, {7, 1, 0, acc}, {24, 1, 0, acc}, {24, 4, 0, acc}, {0, 4, 0, acc},
		{32, 4, 0, acc}, {32, 1, 0, acc}, {56, 4, 0, acc}, {64, 1, 0, acc}, {60, 4, 0, acc},
		{0xfffff000, 1, 0, acc}, {0xfffffffc, 4, 0, acc}, {0xffffffff, 1, 0, acc},
	} {
		if v, err := m.Load(x.a, x.size); v != x.v || err != x.err {
			t.Errorf("P4.1: Load(%#x, %d): %#x, %d, not %#x, %d", x.a, x.size, v, err, x.v, x.err)
		}
	}
}

func TestHalfByHand(t *testing.T) {
	m := made(t, firm()...)
	for _, x := range []struct {
		a, v uint32
		err  api.Errno
	}{
		{16, 0x1110, 0}, {18, 0x1312, 0}, {22, 0x9796, 0}, {56, 0xb130, 0}, {58, 0, 0}, {0xffffeffe, 0xfffe, 0},
		{17, 0, api.ErrExec}, {23, 0, api.ErrExec}, {14, 0, api.ErrExec}, {8, 0, api.ErrExec}, {24, 0, api.ErrExec},
		{32, 0, api.ErrExec}, {40, 0, api.ErrExec}, {64, 0, api.ErrExec}, {0, 0, api.ErrExec}, {54, 0, api.ErrExec},
		{60, 0, api.ErrExec}, {0xfffff000, 0, api.ErrExec}, {0xfffffffe, 0, api.ErrExec}, {0xffffffff, 0, api.ErrExec},
	} {
		if v, err := m.Half(x.a); v != x.v || err != x.err {
			t.Errorf("P4.1: Half(%#x): %#x, %d, not %#x, %d", x.a, v, err, x.v, x.err)
		}
	}
	if err := m.Store(17, 1, 0xffee); err != api.OK {
		t.Errorf("P4.1: Store over code: %d", err)
	}
	if v, err := m.Half(16); v != 0xee10 || err != api.OK {
		t.Errorf("P4.1: Half of what was stored: %#x, %d", v, err)
	}
}

func TestStoreByHand(t *testing.T) {
	const v = 0xd4c3b2a1
	for _, x := range []struct {
		a, size uint32
		err     api.Errno
		place   int
		want    []byte
	}{
		{16, 1, 0, 1, []byte{0xa1, 0x11, 0x12, 0x13, 0x14, 0x15, 0x96, 0x97}},
		{19, 1, 0, 1, []byte{0x10, 0x11, 0x12, 0xa1, 0x14, 0x15, 0x96, 0x97}},
		{18, 2, 0, 1, []byte{0x10, 0x11, 0xa1, 0xb2, 0x14, 0x15, 0x96, 0x97}},
		{22, 2, 0, 1, []byte{0x10, 0x11, 0x12, 0x13, 0x14, 0x15, 0xa1, 0xb2}},
		{20, 4, 0, 1, []byte{0x10, 0x11, 0x12, 0x13, 0xa1, 0xb2, 0xc3, 0xd4}},
		{16, 0, 0, 1, []byte{0xa1, 0xb2, 0xc3, 0xd4, 0x14, 0x15, 0x96, 0x97}},
		{16, 3, 0, 1, []byte{0xa1, 0xb2, 0xc3, 0xd4, 0x14, 0x15, 0x96, 0x97}},
		{16, 0xffffffff, 0, 1, []byte{0xa1, 0xb2, 0xc3, 0xd4, 0x14, 0x15, 0x96, 0x97}},
		{32, 4, 0, 2, []byte{0xa1, 0xb2, 0xc3, 0xd4}},
		{34, 1, 0, 2, []byte{0x20, 0x21, 0xa1, 0}},
		{42, 2, 0, 3, []byte{0xa0, 0xa1, 0xa1, 0xb2}},
		{44, 4, 0, 4, []byte{0xa1, 0xb2, 0xc3, 0xd4}},
		{0xffffefff, 1, 0, 7, []byte{0xfc, 0xfd, 0xfe, 0xa1}},
		{17, 4, api.ErrAlign, 0, nil}, {18, 4, api.ErrAlign, 0, nil}, {22, 4, api.ErrAlign, 0, nil}, {19, 2, api.ErrAlign, 0, nil},
		{18, 9, api.ErrAlign, 0, nil}, {9, 4, api.ErrAlign, 0, nil}, {0xffffffff, 2, api.ErrAlign, 0, nil},
		{8, 4, api.ErrAccess, 0, nil}, {15, 1, api.ErrAccess, 0, nil}, {24, 4, api.ErrAccess, 0, nil}, {56, 2, api.ErrAccess, 0, nil},
		{64, 4, api.ErrAccess, 0, nil}, {0, 1, api.ErrAccess, 0, nil}, {0xfffff000, 4, api.ErrAccess, 0, nil}, {0xfffffffc, 4, api.ErrAccess, 0, nil},
	} {
		m := made(t, firm()...)
		if err := m.Store(x.a, x.size, v); err != x.err {
			t.Errorf("P4.1: Store(%#x, %d): %d, not %d", x.a, x.size, err, x.err)
		}
		old := made(t, firm()...)
		for i := range firm() {
			want := old.Bytes(i)
			if x.want != nil && i == x.place {
				want = x.want
			}
			if got := m.Bytes(i); !bytes.Equal(got, want) {
				t.Errorf("P4.1: Store(%#x, %d): region %d has %x, not %x", x.a, x.size, i, got, want)
			}
		}
	}
}

// model: chapter 4's memory, byte by byte.
type model struct {
	l   []api.Region
	own map[uint32]int
	now map[uint32]byte
}

func newModel(l []api.Region) model {
	o := model{l, map[uint32]int{}, map[uint32]byte{}}
	for i, r := range l {
		for k := range r.Len {
			o.own[r.From+k] = i
			if int(k) < len(r.Bytes) {
				o.now[r.From+k] = r.Bytes[k]
			}
		}
	}
	return o
}

// at: the bytes that size stands for, and the region that has them all.
func (o model) at(a, size uint32) (uint32, api.Region, bool) {
	if size != 1 && size != 2 {
		size = 4
	}
	i, ok := o.own[a]
	for k := range size {
		j, is := o.own[a+k]
		ok = ok && is && i == j
	}
	if !ok {
		return size, api.Region{}, false
	}
	return size, o.l[i], true
}

func (o model) load(a, size uint32) (uint32, api.Errno) {
	n, r, ok := o.at(a, size)
	if a&(n-1) != 0 {
		return 0, api.ErrAlign
	}
	if !ok || !r.Read {
		return 0, api.ErrAccess
	}
	return o.sum(a, n), 0
}

func (o model) half(a uint32) (uint32, api.Errno) {
	_, r, ok := o.at(a, 2)
	if a&1 != 0 || !ok || !r.Exec {
		return 0, api.ErrExec
	}
	return o.sum(a, 2), 0
}

func (o model) sum(a, n uint32) uint32 {
	v, one := uint32(0), uint32(1)
	for k := range n {
		v += uint32(o.now[a+k]) * one
		one *= 256
	}
	return v
}

func (o model) store(a, size, v uint32) api.Errno {
	n, r, ok := o.at(a, size)
	if a&(n-1) != 0 {
		return api.ErrAlign
	}
	if !ok || !r.Write {
		return api.ErrAccess
	}
	for k := range n {
		o.now[a+k] = byte(v % 256)
		v /= 256
	}
	return 0
}

// anyRegions: a right list.
func anyRegions(rnd *rand.Rand) []api.Region {
	l := []api.Region{}
	at := uint32(4 * rnd.Intn(3))
	if rnd.Intn(4) == 0 {
		at = 1<<32 - 4096 - 200
	}
	for range rnd.Intn(6) {
		r := api.Region{From: at, Len: uint32(4 * (1 + rnd.Intn(4))), Read: rnd.Intn(4) > 0, Write: rnd.Intn(4) > 0}
		switch rnd.Intn(3) {
		case 0:
			r.Exec = true
		case 1:
			r.Secret = true
		}
		r.Bytes = make([]byte, rnd.Intn(int(r.Len)+1))
		rnd.Read(r.Bytes)
		l = append(l, r)
		at += r.Len + uint32(4*rnd.Intn(3))
	}
	return l
}

// anyPlace: an address that is mostly in or beside a region of l.
func anyPlace(rnd *rand.Rand, l []api.Region) uint32 {
	if len(l) == 0 || rnd.Intn(50) == 0 {
		return rnd.Uint32()
	}
	r := l[rnd.Intn(len(l))]
	return r.From + uint32(rnd.Intn(int(r.Len)+6)) - 3
}

func TestAgainstModel(t *testing.T) {
	rnd := rand.New(rand.NewSource(4))
	sizes := []uint32{1, 2, 4, 1, 2, 4, 0, 3, 5, 8, 1 << 31, 0xffffffff}
	told := map[api.Errno]int{}
	for range 1500 {
		l := anyRegions(rnd)
		m, o := made(t, l...), newModel(l)
		for range 60 {
			a, size, v := anyPlace(rnd, l), sizes[rnd.Intn(len(sizes))], rnd.Uint32()
			want := o.store(a, size, v)
			if got := m.Store(a, size, v); got != want {
				t.Fatalf("P4.1: Store(%#x, %d, %#x) of %+v: %d, not %d", a, size, v, l, got, want)
			}
			told[want]++
			a, size = anyPlace(rnd, l), sizes[rnd.Intn(len(sizes))]
			v, want = o.load(a, size)
			if got, err := m.Load(a, size); got != v || err != want {
				t.Fatalf("P4.1: Load(%#x, %d) of %+v: %#x, %d, not %#x, %d", a, size, l, got, err, v, want)
			}
			v, want = o.half(a)
			if got, err := m.Half(a); got != v || err != want {
				t.Fatalf("P4.1: Half(%#x) of %+v: %#x, %d, not %#x, %d", a, l, got, err, v, want)
			}
		}
		if !alike(m.Regions(), l) {
			t.Fatalf("P4.1: Regions: %+v, not %+v", m.Regions(), l)
		}
		for i, r := range l {
			for k, b := range m.Bytes(i) {
				if b != o.now[r.From+uint32(k)] || len(m.Bytes(i)) != int(r.Len) {
					t.Fatalf("P4.1: Bytes(%d)[%d] of %+v: %d", i, k, l, b)
				}
			}
		}
	}
	if told[0] < 1000 || told[api.ErrAlign] < 1000 || told[api.ErrAccess] < 1000 {
		t.Errorf("stores that are too much alike: %v", told)
	}
}

// TestStoredIsLoaded: whole and in parts, and nothing else is changed by it.
func TestStoredIsLoaded(t *testing.T) {
	const from, size = 0x100, 16
	rnd := rand.New(rand.NewSource(42))
	for _, n := range []uint32{1, 2, 4} {
		for a := uint32(from); a < from+size; a += n {
			m := made(t, reg(from, size, "rw", 1, 2, 3, 4, 5, 6, 7, 8, 9, 10, 11, 12))
			old, v := m.Bytes(0), rnd.Uint32()
			if err := m.Store(a, n, v); err != api.OK {
				t.Fatalf("P4.2: Store(%#x, %d): %d", a, n, err)
			}
			if got, err := m.Load(a, n); got != v<<(32-8*n)>>(32-8*n) || err != api.OK {
				t.Errorf("P4.2: Load(%#x, %d) behind the store of %#x: %#x, %d", a, n, v, got, err)
			}
			for b := range uint32(size) {
				want := uint32(old[b])
				if k := from + b - a; k < n {
					want = v >> (8 * k) & 0xff
				}
				if got, err := m.Load(from+b, 1); got != want || err != api.OK {
					t.Errorf("P4.2: byte %d behind Store(%#x, %d, %#x): %#x, not %#x", b, a, n, v, got, want)
				}
			}
		}
	}
}

func TestBytesAndRegions(t *testing.T) {
	m := made(t, firm()...)
	for _, i := range []int{-1, 8, 9, 1 << 40, -1 << 63, 1<<63 - 1} {
		if got := m.Bytes(i); len(got) != 0 {
			t.Errorf("P4.1: Bytes(%d): %v", i, got)
		}
	}
	if got := m.Bytes(0); !bytes.Equal(got, []byte{1, 2, 3, 0x84, 0x85, 0, 0, 0}) {
		t.Errorf("P4.1: Bytes(0): %v", got)
	}
	m.Store(16, 4, 0)
	m.Store(32, 4, 0)
	if !alike(m.Regions(), firm()) {
		t.Errorf("P4.1: Regions behind stores: %+v", m.Regions())
	}
}

func TestCopy(t *testing.T) {
	m := made(t, firm()...)
	m.Store(16, 4, 0x01020304)
	c := m.Copy()
	if !c.Same(m) || !m.Same(c) || !alike(c.Regions(), firm()) {
		t.Error("P4.1: a copy isn't the same")
	}
	m.Store(16, 4, 0x11111111)
	if v, _ := c.Load(16, 4); v != 0x01020304 || c.Same(m) {
		t.Errorf("P4.1: the copy was stored to by its first: %#x", v)
	}
	c.Store(20, 4, 0x22222222)
	if v, _ := m.Load(20, 4); v != 0x97961514 {
		t.Errorf("P4.1: the first was stored to by its copy: %#x", v)
	}
	d := c.Copy().Copy()
	if v, _ := d.Load(20, 4); v != 0x22222222 || !d.Same(c) {
		t.Errorf("P4.1: a copy's copy: %#x", v)
	}
	none := made(t)
	if !none.Copy().Same(none) {
		t.Error("P4.1: the copy of none")
	}
}

func TestSame(t *testing.T) {
	m := made(t, firm()...)
	if !m.Same(m) || !m.Same(made(t, firm()...)) || !made(t).Same(made(t)) {
		t.Error("P4.1: like ones aren't the same")
	}
	for i, change := range []func(l []api.Region) []api.Region{
		func(l []api.Region) []api.Region { return nil },
		func(l []api.Region) []api.Region { return l[:7] },
		func(l []api.Region) []api.Region { return l[1:] },
		func(l []api.Region) []api.Region { l[5].From = 52; return l },
		func(l []api.Region) []api.Region { l[6].Len = 8; return l },
		func(l []api.Region) []api.Region { l[7].Read = false; return l },
		func(l []api.Region) []api.Region { l[7].Write = false; return l },
		func(l []api.Region) []api.Region { l[7].Exec = false; return l },
		func(l []api.Region) []api.Region { l[2].Secret = false; return l },
		func(l []api.Region) []api.Region { l[0].Bytes[4] = 0; return l },
		func(l []api.Region) []api.Region { l[0].Bytes = append(l[0].Bytes, 0); return l },
		func(l []api.Region) []api.Region { l[4].Bytes = []byte{0}; return l },
		func(l []api.Region) []api.Region { l[2].Bytes = []byte{0x20, 0x21, 0, 0}; return l },
	} {
		o := made(t, change(firm())...)
		if m.Same(o) || o.Same(m) {
			t.Errorf("P4.1: Same of other regions, change %d", i)
		}
	}
	empty := firm()
	empty[4].Bytes = []byte{}
	if !m.Same(made(t, empty...)) {
		t.Error("P4.1: Bytes that are nil and empty ones are the same")
	}
	if m.Same(nil) || made(t).Same(nil) {
		t.Error("P4.1: Same of nil")
	}
}

// TestSameNow: what is there now counts, not how it came there; what was there at first counts too.
func TestSameNow(t *testing.T) {
	m, o := made(t, firm()...), made(t, firm()...)
	for _, a := range []uint32{16, 35, 40, 44, 0xffffefff} {
		c := o.Copy()
		v := uint32(c.Bytes(map[uint32]int{16: 1, 35: 2, 40: 3, 44: 4, 0xffffefff: 7}[a])[a%4])
		if c.Store(a, 1, v+1); m.Same(c) || c.Same(m) {
			t.Errorf("P4.1: Same of another byte at %#x", a)
		}
		if c.Store(a, 1, v); !m.Same(c) || !c.Same(m) {
			t.Errorf("P4.1: Same of the byte at %#x that is as it was", a)
		}
	}
	other := firm()
	other[1].Bytes[0] = 0
	p := made(t, other...)
	p.Store(16, 1, 0x10)
	if !bytes.Equal(p.Bytes(1), m.Bytes(1)) || m.Same(p) || p.Same(m) {
		t.Error("P4.1: Same of other Bytes, though the same is there now")
	}
}

// TestNothingShared: what was handed in, what is answered and the memory are each for itself, the room behind lists too.
func TestNothingShared(t *testing.T) {
	back := bytes.Repeat([]byte{0x77}, 16)
	l := append(make([]api.Region, 0, 4), reg(8, 8, "rw"), reg(16, 8, "rw"))
	l[0].Bytes, l[1].Bytes = back[:4], back[4:8]
	m := made(t, l...)
	kept := m.Copy()
	m.Store(8, 4, 0)
	m.Store(12, 4, 0)
	m.Store(16, 4, 0)
	if !bytes.Equal(back, bytes.Repeat([]byte{0x77}, 16)) || l[:4][2].Len != 0 || l[:4][3].Len != 0 {
		t.Errorf("P4.1: what was handed in was changed: %v, %v", back, l[:4])
	}
	m = made(t, l...)
	l[0].From, l[1] = 0, api.Region{}
	clear(back)
	if !m.Same(kept) || !alike(m.Regions(), kept.Regions()) {
		t.Error("P4.1: what was handed in was kept")
	}
	for _, b := range [][]byte{m.Bytes(0), m.Bytes(1), m.Regions()[0].Bytes, m.Regions()[1].Bytes} {
		clear(b[:cap(b)])
	}
	got := m.Regions()
	for i := range got {
		clear(got[i].Bytes[:cap(got[i].Bytes)])
		got[i] = api.Region{}
	}
	_ = append(got, api.Region{From: 1})
	if !m.Same(kept) || !bytes.Equal(m.Bytes(0), []byte{0x77, 0x77, 0x77, 0x77, 0, 0, 0, 0}) {
		t.Error("P4.1: what was answered was kept")
	}
	two := m.Regions()
	if clear(two[0].Bytes[:cap(two[0].Bytes)]); !bytes.Equal(two[1].Bytes, []byte{0x77, 0x77, 0x77, 0x77}) {
		t.Error("P4.1: two lists of one answer share memory")
	}
}
