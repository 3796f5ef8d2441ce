package host_test

import (
	"bytes"
	"math"
	"math/rand"
	"strings"
	"testing"

	"sourdine/api"
	"sourdine/host"
)

// what the document says of each instruction, written out once more; uses has a letter for each of D, A, B, C, Imm.
type what struct {
	name                string
	op                  int
	uses                string
	cost, loads, stores int
}

var all = []what{
	{"MovI", api.HMovI, "DI", 1, 0, 0},
	{"Mov", api.HMov, "DA", 1, 0, 0},
	{"Add", api.HAdd, "DAB", 1, 0, 0},
	{"Sub", api.HSub, "DAB", 1, 0, 0},
	{"And", api.HAnd, "DAB", 1, 0, 0},
	{"Or", api.HOr, "DAB", 1, 0, 0},
	{"Xor", api.HXor, "DAB", 1, 0, 0},
	{"Shl", api.HShl, "DAB", 1, 0, 0},
	{"Shr", api.HShr, "DAB", 1, 0, 0},
	{"Sar", api.HSar, "DAB", 1, 0, 0},
	{"Ror", api.HRor, "DAB", 1, 0, 0},
	{"Mul", api.HMul, "DAB", 3, 0, 0},
	{"MulU", api.HMulU, "DAB", 3, 0, 0},
	{"MulS", api.HMulS, "DAB", 3, 0, 0},
	{"DivU", api.HDivU, "DAB", 12, 0, 0},
	{"DivS", api.HDivS, "DAB", 12, 0, 0},
	{"Clz", api.HClz, "DA", 1, 0, 0},
	{"LtU", api.HLtU, "DAB", 1, 0, 0},
	{"LtS", api.HLtS, "DAB", 1, 0, 0},
	{"Eq", api.HEq, "DAB", 1, 0, 0},
	{"Sel", api.HSel, "DABC", 1, 0, 0},
	{"Ld1", api.HLd1, "DAI", 2, 1, 0},
	{"Ld2", api.HLd2, "DAI", 2, 2, 0},
	{"Ld4", api.HLd4, "DAI", 2, 4, 0},
	{"St1", api.HSt1, "ABI", 2, 0, 1},
	{"St2", api.HSt2, "ABI", 2, 0, 2},
	{"St4", api.HSt4, "ABI", 2, 0, 4},
	{"Jmp", api.HJmp, "I", 2, 0, 0},
	{"Jz", api.HJz, "AI", 2, 0, 0},
	{"Exit", api.HExit, "", 4, 0, 0},
	{"Trap", api.HTrap, "I", 4, 0, 0},
}

// none: numbers that are no instruction's.
var none = []int{0, -1, -2, api.HOps, api.HOps + 1, 255, 256, 256 + api.HAdd, 1<<32 + api.HAdd, math.MaxInt, math.MinInt}

func TestOps(t *testing.T) {
	if len(all) != api.HOps-1 {
		t.Fatalf("P5.1: %d instructions, not %d", len(all), api.HOps-1)
	}
	for i, w := range all {
		if w.op != i+1 {
			t.Errorf("P5.1: %s is %d, not %d", w.name, w.op, i+1)
		}
		if g := host.Name(w.op); g != w.name {
			t.Errorf("P5.2: Name of %s: %q", w.name, g)
		}
		if g := host.Cost(w.op); g != w.cost {
			t.Errorf("P5.2: Cost of %s: %d, not %d", w.name, g, w.cost)
		}
		if g := host.Loads(w.op); g != w.loads {
			t.Errorf("P5.2: Loads of %s: %d, not %d", w.name, g, w.loads)
		}
		if g := host.Stores(w.op); g != w.stores {
			t.Errorf("P5.2: Stores of %s: %d, not %d", w.name, g, w.stores)
		}
	}
	for _, o := range none {
		if host.Name(o) != "" || host.Cost(o) != 0 || host.Loads(o) != 0 || host.Stores(o) != 0 {
			t.Errorf("P5.2: %d is none: %q, %d, %d, %d", o, host.Name(o), host.Cost(o), host.Loads(o), host.Stores(o))
		}
	}
}

// what it costs is asked by its number alone, so the same number must tell the same, whatever else was asked between.
func TestCostAgain(t *testing.T) {
	for range 3 {
		for _, w := range all {
			for _, h := range []api.Host{{Op: w.op}, {Op: w.op, D: 31, A: 31, B: 31, C: 31, Imm: math.MaxUint32}} {
				host.Right(h)
				host.Put(h)
				if g := host.Cost(h.Op); g != w.cost {
					t.Errorf("P5.3: %s costs %d, then %d", w.name, w.cost, g)
				}
			}
		}
	}
}

// right: the model of Right, field by field.
func right(h api.Host) bool {
	if h.Op < 1 || h.Op > len(all) {
		return false
	}
	w := all[h.Op-1]
	for _, x := range []struct {
		letter string
		v      int
	}{{"D", h.D}, {"A", h.A}, {"B", h.B}, {"C", h.C}} {
		top := 0
		if strings.Contains(w.uses, x.letter) {
			top = 31
		}
		if x.v < 0 || x.v > top {
			return false
		}
	}
	if w.name == "Trap" {
		return h.Imm > 0 && h.Imm < 100
	}
	return h.Imm == 0 || strings.Contains(w.uses, "I")
}

// put: the model of Put.
func put(h api.Host) []byte {
	if !right(h) {
		return nil
	}
	b := []byte{byte(h.Op), byte(h.D), byte(h.A), byte(h.B), byte(h.C)}
	for i := range 4 {
		b = append(b, byte(h.Imm/(1<<(8*i))%256))
	}
	return b
}

// hold: h held against the models.
func hold(t *testing.T, h api.Host) {
	t.Helper()
	want := right(h)
	if g := host.Right(h); g != want {
		t.Errorf("P5.1: Right(%v) is %v", h, g)
	}
	b := host.Put(h)
	if !bytes.Equal(b, put(h)) {
		t.Errorf("P5.1: Put(%v) is %x, not %x", h, b, put(h))
	}
	if !want || len(b) != 9 {
		return
	}
	if g, e := host.Read(b); g != h || e != api.OK {
		t.Errorf("P5.1: Read(%x) is %v, %d, not %v", b, g, e, h)
	}
}

// least: an instruction that is Right, of which one field is changed by the tests.
func least(o int) api.Host {
	h := api.Host{Op: o}
	if o == api.HTrap {
		h.Imm = 1
	}
	return h
}

func TestRightAtTheEdges(t *testing.T) {
	registers := []int{math.MinInt, -256, -1, 0, 1, 15, 16, 30, 31, 32, 33, 255, 256, 257, 1 << 32, math.MaxInt}
	imms := []uint32{0, 1, 2, 98, 99, 100, 101, 255, 256, 0x7fffffff, 0x80000000, 0xff000000, math.MaxUint32 - 1, math.MaxUint32}
	for o := -2; o < api.HOps+3; o++ {
		hold(t, least(o))
		hold(t, api.Host{Op: o})
		for _, r := range registers {
			for i := range 4 {
				h := least(o)
				*[]*int{&h.D, &h.A, &h.B, &h.C}[i] = r
				hold(t, h)
			}
		}
		for _, v := range imms {
			h := least(o)
			h.Imm = v
			hold(t, h)
		}
	}
	for _, o := range none {
		hold(t, least(o))
		if host.Right(least(o)) || host.Put(least(o)) != nil {
			t.Errorf("P5.1: %d is no instruction", o)
		}
	}
}

// every pair of fields that are there or not, so that what one uses is never asked of another one's bit.
func TestRightOfAllFields(t *testing.T) {
	for o := range api.HOps + 1 {
		for m := range 32 {
			h := api.Host{Op: o, D: m & 1 * 31, A: m >> 1 & 1 * 30, B: m >> 2 & 1 * 29, C: m >> 3 & 1 * 28, Imm: uint32(m >> 4 & 1 * 99)}
			hold(t, h)
		}
	}
}

func TestPutByHand(t *testing.T) {
	for _, x := range []struct {
		h    api.Host
		want []byte
	}{
		{api.Host{Op: api.HMovI, D: 3, Imm: 0x89abcdef}, []byte{1, 3, 0, 0, 0, 0xef, 0xcd, 0xab, 0x89}},
		{api.Host{Op: api.HMov, D: 31, A: 30}, []byte{2, 31, 30, 0, 0, 0, 0, 0, 0}},
		{api.Host{Op: api.HAdd, D: 1, A: 2, B: 3}, []byte{3, 1, 2, 3, 0, 0, 0, 0, 0}},
		{api.Host{Op: api.HSel, D: 1, A: 2, B: 3, C: 4}, []byte{21, 1, 2, 3, 4, 0, 0, 0, 0}},
		{api.Host{Op: api.HLd4, D: 7, A: 8, Imm: 0xfffffffc}, []byte{24, 7, 8, 0, 0, 0xfc, 0xff, 0xff, 0xff}},
		{api.Host{Op: api.HSt1, A: 7, B: 8, Imm: 1}, []byte{25, 0, 7, 8, 0, 1, 0, 0, 0}},
		{api.Host{Op: api.HJmp, Imm: 0xffffffff}, []byte{28, 0, 0, 0, 0, 255, 255, 255, 255}},
		{api.Host{Op: api.HJz, A: 9, Imm: 256}, []byte{29, 0, 9, 0, 0, 0, 1, 0, 0}},
		{api.Host{Op: api.HExit}, []byte{30, 0, 0, 0, 0, 0, 0, 0, 0}},
		{api.Host{Op: api.HTrap, Imm: 24}, []byte{31, 0, 0, 0, 0, 24, 0, 0, 0}},
		{api.Host{}, nil},
		{api.Host{Op: api.HSt1, D: 1, A: 7, B: 8}, nil},
		{api.Host{Op: api.HAdd, D: 256, A: 2, B: 3}, nil},
		{api.Host{Op: api.HTrap}, nil},
	} {
		if g := host.Put(x.h); !bytes.Equal(g, x.want) {
			t.Errorf("P5.1: Put(%v) is %x, not %x", x.h, g, x.want)
		}
		hold(t, x.h)
	}
}

// wantRead: the model of Read, which looks for the one whose Put b is.
func wantRead(b []byte) (api.Host, api.Errno) {
	if len(b) < 9 {
		return api.Host{}, api.ErrShort
	}
	imm := uint32(0)
	for i := range 4 {
		imm += uint32(b[5+i]) << (8 * i)
	}
	h := api.Host{Op: int(b[0]), D: int(b[1]), A: int(b[2]), B: int(b[3]), C: int(b[4]), Imm: imm}
	if !bytes.Equal(put(h), b) {
		return api.Host{}, api.ErrForm
	}
	return h, api.OK
}

func holdRead(t *testing.T, b []byte) {
	t.Helper()
	want, err := wantRead(b)
	if g, e := host.Read(b); g != want || e != err {
		t.Errorf("P5.1: Read(%x) is %v, %d, not %v, %d", b, g, e, want, err)
	}
}

func TestReadLengths(t *testing.T) {
	for _, first := range []byte{0, api.HMovI, api.HExit, api.HOps, 255} {
		for n := range 30 {
			b := make([]byte, n)
			if n > 0 {
				b[0] = first
			}
			holdRead(t, b)
		}
	}
	holdRead(t, nil)
	two := append(host.Put(api.Host{Op: api.HExit}), host.Put(api.Host{Op: api.HExit})...)
	if h, e := host.Read(two); h != (api.Host{}) || e != api.ErrForm {
		t.Errorf("P5.1: Read of two: %v, %d", h, e)
	}
}

// each byte of each least instruction, with all its values.
func TestReadEveryByte(t *testing.T) {
	for o := range 256 {
		for at := range 9 {
			for v := range 256 {
				b := []byte{byte(o), 0, 0, 0, 0, 0, 0, 0, 0}
				if o == api.HTrap {
					b[5] = 7
				}
				b[at] = byte(v)
				holdRead(t, b)
			}
		}
	}
}

func TestAtRandom(t *testing.T) {
	r := rand.New(rand.NewSource(5))
	for range 100000 {
		h := api.Host{Op: r.Intn(api.HOps+2) - 1}
		for _, p := range []*int{&h.D, &h.A, &h.B, &h.C} {
			if r.Intn(2) == 0 {
				*p = r.Intn(36) - 2
			}
		}
		if r.Intn(2) == 0 {
			h.Imm = r.Uint32() >> r.Intn(32)
		}
		hold(t, h)
		b := []byte{byte(r.Intn(api.HOps + 1)), 0, 0, 0, 0, 0, 0, 0, 0}
		for i := range 8 {
			if r.Intn(2) == 0 {
				b[1+i] = byte(r.Intn(256) >> r.Intn(8))
			}
		}
		holdRead(t, b)
	}
}

func TestNothingShared(t *testing.T) {
	h := api.Host{Op: api.HMovI, D: 1, Imm: 2}
	a, b := host.Put(h), host.Put(h)
	for i := range a[:cap(a)] {
		a[:cap(a)][i] = 0xee
	}
	if !bytes.Equal(b, put(h)) || !bytes.Equal(host.Put(h), put(h)) {
		t.Error("P5.1: what Put answers is new memory")
	}
	in := append(put(h), 1, 2, 3)
	before := append([]byte{}, in...)
	host.Read(in[:9])
	host.Read(in[:8])
	if !bytes.Equal(in, before) {
		t.Error("P5.1: Read changed what it was handed")
	}
}
