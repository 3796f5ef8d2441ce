package word_test

import (
	"math"
	"testing"

	"sourdine/api"
	"sourdine/word"
)

// edges: words at which something turns over, and some that are ordinary.
var edges = []uint32{0, 1, 2, 3, 7, 0x7f, 0x80, 0xff, 0x100, 0x7fff, 0x8000, 0xffff, 0x10000, 0x12345678, 0x80c0a011, 0x55aa55aa, 0x7ffffffe, 0x7fffffff, 0x80000000, 0x80000001, 0xdeadbeef, 0xfffffffe, 0xffffffff}

func bit(v uint32, n int) bool { return n >= 0 && n < 32 && v>>uint(n)&1 == 1 }

// build: the word whose bit n is what is says of n.
func build(is func(n int) bool) uint32 {
	var v uint32
	for n := range 32 {
		if is(n) {
			v |= 1 << uint(n)
		}
	}
	return v
}

func TestAddCarry(t *testing.T) {
	for _, a := range edges {
		for _, b := range edges {
			for in, carry := range []bool{false, true} {
				whole := uint64(a) + uint64(b) + uint64(in)
				signed := int64(int32(a)) + int64(int32(b)) + int64(in)
				out := whole > math.MaxUint32
				over := signed < math.MinInt32 || signed > math.MaxInt32
				v, gotOut, gotOver := word.AddCarry(a, b, carry)
				if uint64(v) != whole%(1<<32) || gotOut != out || gotOver != over {
					t.Errorf("P1.1: AddCarry(%#x, %#x, %v): %#x, %v, %v", a, b, carry, v, gotOut, gotOver)
				}
			}
		}
	}
}

// shiftModel: chapter 1's Shift, one bit at a time.
func shiftModel(v uint32, kind, n int, carry bool) (uint32, bool) {
	if n < 0 {
		n = 0
	}
	if n > 255 {
		n = 255
	}
	if kind == api.ShRrx {
		n = 1
	}
	out := carry
	for range n {
		high, low := bit(v, 31), bit(v, 0)
		was := v
		switch kind {
		case api.ShLsl:
			v, out = build(func(i int) bool { return bit(was, i-1) }), high
		case api.ShLsr:
			v, out = build(func(i int) bool { return bit(was, i+1) }), low
		case api.ShAsr:
			v, out = build(func(i int) bool { return bit(was, min(i+1, 31)) }), low
		case api.ShRor:
			v, out = build(func(i int) bool { return bit(was, (i+1)%32) }), low
		case api.ShRrx:
			v, out = build(func(i int) bool { return bit(was, i+1) || i == 31 && carry }), low
		}
	}
	return v, out
}

func TestShift(t *testing.T) {
	counts := []int{math.MinInt, -256, -33, -32, -1}
	for n := range 260 {
		counts = append(counts, n)
	}
	counts = append(counts, 288, 1<<32, 1<<32+1, math.MaxInt)
	for _, kind := range []int{math.MinInt, -1, api.ShNone, api.ShLsl, api.ShLsr, api.ShAsr, api.ShRor, api.ShRrx, api.ShRrx + 1, math.MaxInt} {
		for _, n := range counts {
			for _, v := range []uint32{0, 1, 0x80000000, 0x7fffffff, 0x80c0a011, 0xffffffff} {
				for _, carry := range []bool{false, true} {
					want, wantOut := shiftModel(v, kind, n, carry)
					if got, out := word.Shift(v, kind, n, carry); got != want || out != wantOut {
						t.Fatalf("P1.1: Shift(%#x, %d, %d, %v): %#x, %v, not %#x, %v", v, kind, n, carry, got, out, want, wantOut)
					}
				}
			}
		}
	}
}

func TestShiftAtTheEdges(t *testing.T) {
	const v = 0x80000001
	for _, x := range []struct {
		kind, n int
		carry   bool
		want    uint32
		out     bool
	}{
		{api.ShLsl, 0, true, v, true}, {api.ShLsl, 0, false, v, false},
		{api.ShLsl, 31, false, 0x80000000, false}, {api.ShLsl, 32, false, 0, true}, {api.ShLsl, 33, true, 0, false},
		{api.ShLsl, 64, true, 0, false}, {api.ShLsl, 255, true, 0, false}, {api.ShLsl, 256, true, 0, false}, {api.ShLsl, -1, true, v, true},
		{api.ShLsr, 32, false, 0, true}, {api.ShLsr, 33, true, 0, false}, {api.ShLsr, 255, true, 0, false},
		{api.ShAsr, 32, false, 0xffffffff, true}, {api.ShAsr, 33, false, 0xffffffff, true}, {api.ShAsr, 1000, false, 0xffffffff, true},
		{api.ShRor, 32, false, v, true}, {api.ShRor, 64, false, v, true}, {api.ShRor, 255, false, 3, false}, {api.ShRor, 256, true, 3, false}, {api.ShRor, -32, false, v, false},
		{api.ShRrx, 0, false, 0x40000000, true}, {api.ShRrx, 1, true, 0xc0000000, true}, {api.ShRrx, -9, true, 0xc0000000, true}, {api.ShRrx, 255, false, 0x40000000, true},
		{api.ShNone, 7, true, v, true}, {api.ShRrx + 1, 7, false, v, false}, {-1, 7, true, v, true},
	} {
		if got, out := word.Shift(v, x.kind, x.n, x.carry); got != x.want || out != x.out {
			t.Errorf("P1.1: Shift(v, %d, %d, %v): %#x, %v", x.kind, x.n, x.carry, got, out)
		}
	}
}

// expandModel: chapter 1's Expand, of an imm12 of 12 bits, byte by byte or bit by bit.
func expandModel(imm12 uint32, carry bool) (uint32, bool, bool) {
	low := imm12 % 256
	if imm12 < 0x400 {
		bytes := [][4]uint32{{0, 0, 0, 1}, {0, 1, 0, 1}, {1, 0, 1, 0}, {1, 1, 1, 1}}[imm12/256]
		var v uint32
		for _, b := range bytes {
			v = v*256 + b*low
		}
		return v, carry, imm12 < 0x100 || low != 0
	}
	start := low%128 + 128
	v := build(func(n int) bool { return bit(start, (n+int(imm12/128))%32) })
	return v, bit(v, 31), true
}

func TestExpand(t *testing.T) {
	for imm12 := range uint32(0x1000) {
		for _, carry := range []bool{false, true} {
			want, wantOut, wantIs := expandModel(imm12, carry)
			for _, above := range []uint32{0, 0x1000, 0xabcde000, 0xfffff000} {
				if v, out, is := word.Expand(above|imm12, carry); v != want || out != wantOut || is != wantIs {
					t.Fatalf("P1.2: Expand(%#x, %v): %#x, %v, %v", above|imm12, carry, v, out, is)
				}
			}
		}
	}
}

func TestExpandRefused(t *testing.T) {
	for _, imm12 := range []uint32{0x100, 0x200, 0x300} {
		for _, carry := range []bool{false, true} {
			if v, out, is := word.Expand(imm12, carry); v != 0 || out != carry || is {
				t.Errorf("P1.2: Expand(%#x, %v): %#x, %v, %v", imm12, carry, v, out, is)
			}
		}
	}
	if v, out, is := word.Expand(0x4ff, true); v != 0x7f800000 || out || !is {
		t.Errorf("P1.2: Expand(0x4ff): %#x, %v, %v", v, out, is)
	}
}

// least: for each word that some imm12 makes, the least of these.
func least() map[uint32]uint32 {
	all := map[uint32]uint32{}
	for imm12 := range uint32(0x1000) {
		v, _, is := expandModel(imm12, false)
		if _, had := all[v]; is && !had {
			all[v] = imm12
		}
	}
	return all
}

func TestCompress(t *testing.T) {
	all := least()
	check := func(v uint32) {
		want, wantIs := all[v]
		if got, is := word.Compress(v); got != want || is != wantIs {
			t.Fatalf("P1.2: Compress(%#x): %#x, %v, not %#x, %v", v, got, is, want, wantIs)
		}
	}
	for v := range all {
		check(v)
		for n := range 32 { // words beside those that there are
			check(v ^ 1<<uint(n))
		}
		check(v + 1)
		check(v - 1)
	}
	for v := range uint32(1 << 17) {
		check(v)
		check(v << 15)
		check(v * 0x00010001)
		check(^v)
	}
	for _, v := range edges {
		check(v)
	}
}

func TestOrders(t *testing.T) {
	for _, v := range edges {
		noughts := 0
		for noughts < 32 && !bit(v, 31-noughts) {
			noughts++
		}
		if got := word.Clz(v); got != noughts {
			t.Errorf("P1.3: Clz(%#x): %d", v, got)
		}
		if got := word.Rbit(v); got != build(func(n int) bool { return bit(v, 31-n) }) {
			t.Errorf("P1.3: Rbit(%#x): %#x", v, got)
		}
		if got := word.Rev(v); got != build(func(n int) bool { return bit(v, 8*(3-n/8)+n%8) }) {
			t.Errorf("P1.3: Rev(%#x): %#x", v, got)
		}
		if got := word.Rev16(v); got != build(func(n int) bool { return bit(v, 8*(n/8^1)+n%8) }) {
			t.Errorf("P1.3: Rev16(%#x): %#x", v, got)
		}
		if got := word.Revsh(v); got != build(func(n int) bool { n = min(n, 15); return bit(v, 8*(n/8^1)+n%8) }) {
			t.Errorf("P1.3: Revsh(%#x): %#x", v, got)
		}
	}
}

func TestOrdersByHand(t *testing.T) {
	for _, x := range []struct {
		name      string
		got, want uint32
	}{
		{"Clz(0)", uint32(word.Clz(0)), 32}, {"Clz(1)", uint32(word.Clz(1)), 31}, {"Clz(0xffffffff)", uint32(word.Clz(0xffffffff)), 0},
		{"Rbit", word.Rbit(0x80000002), 0x40000001}, {"Rev", word.Rev(0x11223344), 0x44332211},
		{"Rev16", word.Rev16(0x11223344), 0x22114433},
		{"Revsh", word.Revsh(0x11223344), 0x00004433}, {"Revsh of a sign", word.Revsh(0x11227f80), 0xffff807f},
	} {
		if x.got != x.want {
			t.Errorf("P1.3: %s: %#x", x.name, x.got)
		}
	}
}

func TestSignZero(t *testing.T) {
	counts := []int{math.MinInt, -32, -1}
	for n := range 35 {
		counts = append(counts, n)
	}
	counts = append(counts, 64, 1<<32+8, math.MaxInt)
	for _, v := range edges {
		for _, count := range counts {
			near := min(max(count, 1), 32)
			sign := build(func(n int) bool { return bit(v, min(n, near-1)) })
			zero := build(func(n int) bool { return n < near && bit(v, n) })
			if word.Sign(v, count) != sign || word.Zero(v, count) != zero {
				t.Errorf("P1.3: Sign, Zero(%#x, %d): %#x, %#x", v, count, word.Sign(v, count), word.Zero(v, count))
			}
		}
	}
}

func TestMul64(t *testing.T) {
	for _, a := range edges {
		for _, b := range edges {
			whole := uint64(a) * uint64(b)
			if low, high := word.Mul64(a, b, false); uint64(high)<<32|uint64(low) != whole {
				t.Errorf("P1.3: Mul64(%#x, %#x, false): %#x, %#x", a, b, low, high)
			}
			signed := int64(int32(a)) * int64(int32(b))
			if low, high := word.Mul64(a, b, true); int64(high)<<32|int64(low) != signed {
				t.Errorf("P1.3: Mul64(%#x, %#x, true): %#x, %#x", a, b, low, high)
			}
		}
	}
}

// size: how far from nought a signed word is.
func size(v uint32) uint32 {
	if bit(v, 31) {
		return -v
	}
	return v
}

func TestDiv(t *testing.T) {
	for _, a := range edges {
		for _, b := range edges {
			var u, s uint32
			if b != 0 {
				u, s = a/b, size(a)/size(b)
				if bit(a, 31) != bit(b, 31) {
					s = -s
				}
			}
			if word.DivU(a, b) != u || word.DivS(a, b) != s {
				t.Errorf("P1.3: DivU, DivS(%#x, %#x): %#x, %#x", a, b, word.DivU(a, b), word.DivS(a, b))
			}
		}
	}
}

func TestDivByHand(t *testing.T) {
	minus := func(v uint32) uint32 { return -v }
	for _, x := range []struct{ a, b, u, s uint32 }{
		{7, 2, 3, 3}, {minus(7), 2, 0x7ffffffc, minus(3)}, {7, minus(2), 0, minus(3)}, {minus(7), minus(2), 0, 3},
		{7, 0, 0, 0}, {0, 0, 0, 0}, {0x80000000, 0, 0, 0}, {0x80000000, minus(1), 0, 0x80000000},
	} {
		if word.DivU(x.a, x.b) != x.u || word.DivS(x.a, x.b) != x.s {
			t.Errorf("P1.3: DivU, DivS(%#x, %#x): %#x, %#x", x.a, x.b, word.DivU(x.a, x.b), word.DivS(x.a, x.b))
		}
	}
}

// The face is of words of 32 bits: this does not build where it is not.
var (
	_          func(a, b uint32, carry bool) (uint32, bool, bool)     = word.AddCarry
	_          func(v uint32, kind, n int, carry bool) (uint32, bool) = word.Shift
	_          func(imm12 uint32, carry bool) (uint32, bool, bool)    = word.Expand
	_          func(v uint32) (uint32, bool)                          = word.Compress
	_          func(v uint32) int                                     = word.Clz
	_, _, _, _ func(v uint32) uint32                                  = word.Rbit, word.Rev, word.Rev16, word.Revsh
	_, _       func(v uint32, bits int) uint32                        = word.Sign, word.Zero
	_          func(a, b uint32, signed bool) (uint32, uint32)        = word.Mul64
	_, _       func(a, b uint32) uint32                               = word.DivU, word.DivS
)

// TestWord: what goes over 32 bits is gone, at each call that could keep more.
func TestWord(t *testing.T) {
	if v, out, _ := word.AddCarry(0xffffffff, 0xffffffff, true); v != 0xffffffff || !out {
		t.Errorf("P1.4: AddCarry: %#x, %v", v, out)
	}
	if v, out := word.Shift(0xffffffff, api.ShLsl, 32, false); v != 0 || !out {
		t.Errorf("P1.4: Shift: %#x, %v", v, out)
	}
	if low, high := word.Mul64(0xffffffff, 0xffffffff, false); low != 1 || high != 0xfffffffe {
		t.Errorf("P1.4: Mul64: %#x, %#x", low, high)
	}
	if word.Clz(0) != 32 || word.Rbit(1) != 1<<31 || word.Sign(1, 1) != 0xffffffff {
		t.Error("P1.4: Clz, Rbit, Sign")
	}
}
