package state_test

import (
	"bytes"
	"encoding/binary"
	"math"
	"math/rand"
	"testing"

	"sourdine/api"
	"sourdine/state"
)

// numbers: those at the edges of a register.
var numbers = []uint32{0, 1, 2, 3, 0x7f, 0x80, 0xff, 0x100, 0xffff, 0x10000, 0x01020304, 0x7fffffff, 0x80000000, 0xfffffff9, 0xfffffffe, 0xffffffff}

// wild: Flags with all that may stand above the lowest four bits.
var wild = []int{0, 0x10, 0x20, 0x80, 0x100, 0xfff0, 1 << 31, 1 << 32, 1 << 62, -16, math.MinInt, math.MaxInt - 15}

// some: a state at random, with flags written into its lowest four bits and above them what is handed in.
func some(r *rand.Rand, above, low int) api.State {
	s := api.State{Flags: above | low, Handler: r.Intn(2) == 1}
	for i := range s.R {
		s.R[i] = r.Uint32()
	}
	return s
}

// each: do with states at random, of all flags and all that may stand above them.
func each(do func(s api.State, low int)) {
	r := rand.New(rand.NewSource(12))
	for _, above := range wild {
		for low := range 16 {
			for range 4 {
				do(some(r, above, low), low)
			}
		}
	}
}

// TestNew: of all edges, field by field.
func TestNew(t *testing.T) {
	for _, entry := range numbers {
		for _, sp := range numbers {
			var want api.State
			want.R[13], want.R[14], want.R[15] = sp, 0xffffffff, entry
			if got := state.New(entry, sp); got != want {
				t.Errorf("P12.1: New(%#x, %#x): %+v, not %+v", entry, sp, got, want)
			}
		}
	}
	if s := state.New(0, 0); s.Flags != 0 {
		t.Errorf("the chapter's example: New(0, 0): flags %d, not 0", s.Flags)
	}
}

// TestSameFlags: the lowest four bits of Flags count, and no other one of them.
func TestSameFlags(t *testing.T) {
	r := rand.New(rand.NewSource(1))
	base := some(r, 0, 0)
	for _, x := range wild {
		for _, y := range wild {
			for i := range 16 {
				for j := range 16 {
					a, b := base, base
					a.Flags, b.Flags = x|i, y|j
					if got := state.Same(a, b); got != (i == j) {
						t.Fatalf("P12.1: Same of Flags %#x and %#x: %v", a.Flags, b.Flags, got)
					}
				}
			}
		}
	}
}

// TestSameEach: every bit of every register counts, and Handler.
func TestSameEach(t *testing.T) {
	each(func(s api.State, low int) {
		if !state.Same(s, s) {
			t.Fatalf("P12.1: Same: %+v isn't itself", s)
		}
		for i := range s.R {
			for bit := range 32 {
				other := s
				other.R[i] ^= 1 << bit
				differ(t, s, other)
			}
		}
		other := s
		other.Handler = !s.Handler
		differ(t, s, other)
	})
	differ(t, state.New(4, 8), state.New(8, 4))
	if !state.Same(state.New(4, 8), state.New(4, 8)) {
		t.Error("P12.1: Same of two that New told alike: false")
	}
}

// differ: Same tells a and b apart, both ways round.
func differ(t *testing.T, a, b api.State) {
	t.Helper()
	if state.Same(a, b) || state.Same(b, a) {
		t.Fatalf("P12.1: Same of %+v and %+v: true", a, b)
	}
}

// TestPack: register by register.
func TestPack(t *testing.T) {
	each(func(s api.State, low int) {
		then := s
		r := state.Pack(s)
		for i, v := range r {
			want := uint32(0)
			switch {
			case i < 16:
				want = s.R[i]
			case i == 16:
				want = uint32(low)
			}
			if v != want {
				t.Fatalf("P12.1: Pack of %+v: register %d: %#x, not %#x", s, i, v, want)
			}
		}
		r[3]++
		if s != then {
			t.Fatalf("P12.1: Pack changed %+v to %+v", then, s)
		}
	})
}

// TestUnpack: registers with anything in them, those above 16 too.
func TestUnpack(t *testing.T) {
	rnd := rand.New(rand.NewSource(2))
	for range 2000 {
		var r [api.Registers]uint32
		for i := range r {
			r[i] = rnd.Uint32()
		}
		for _, handler := range []bool{false, true} {
			unpacks(t, r, handler)
		}
	}
	for _, v := range numbers {
		var r [api.Registers]uint32
		for i := range r {
			r[i] = v + uint32(i)
		}
		unpacks(t, r, true)
	}
	for bit := range 32 {
		unpacks(t, [api.Registers]uint32{16: 1 << bit}, false)
	}
}

// unpacks: Unpack tells what a loop over the registers does.
func unpacks(t *testing.T, r [api.Registers]uint32, handler bool) {
	t.Helper()
	want := api.State{Flags: int(r[16] % 16), Handler: handler}
	for i := range want.R {
		want.R[i] = r[i]
	}
	if got := state.Unpack(r, handler); got != want {
		t.Fatalf("P12.1: Unpack(%v, %v): %+v, not %+v", r, handler, got, want)
	}
}

// TestBytesPlain: bytes written out.
func TestBytesPlain(t *testing.T) {
	s := state.New(0x01020304, 0xa0b0c0d0)
	s.R[0], s.Flags, s.Handler = 0x80, api.N|api.C, true
	want := make([]byte, 66)
	want[0] = 0x80
	copy(want[52:], []byte{0xd0, 0xc0, 0xb0, 0xa0, 0xff, 0xff, 0xff, 0xff, 4, 3, 2, 1, 10, 1})
	if got := state.Bytes(s); !bytes.Equal(got, want) {
		t.Errorf("P12.1: Bytes of %+v: %x, not %x", s, got, want)
	}
	if got := state.Bytes(api.State{}); !bytes.Equal(got, make([]byte, 66)) {
		t.Errorf("P12.1: Bytes of what is all zero: %x", got)
	}
}

// TestBytes: as the library lays them out, in new memory each time.
func TestBytes(t *testing.T) {
	each(func(s api.State, low int) {
		var want []byte
		for _, v := range s.R {
			want = binary.LittleEndian.AppendUint32(want, v)
		}
		want = append(want, byte(low), 0)
		if s.Handler {
			want[65] = 1
		}
		first := state.Bytes(s)
		if !bytes.Equal(first, want) {
			t.Fatalf("P12.1: Bytes of %+v: %x, not %x", s, first, want)
		}
		clear(first[:cap(first)])
		if again := state.Bytes(s); !bytes.Equal(again, want) {
			t.Fatalf("P12.1: Bytes of %+v again: %x, not %x", s, again, want)
		}
	})
}

// TestBytesTell: two states have the same bytes where they are the same, and only there.
func TestBytesTell(t *testing.T) {
	var all []api.State
	each(func(s api.State, low int) {
		other := s
		other.Flags ^= 0x50
		all = append(all, s, other)
	})
	for _, a := range all[:400] {
		for _, b := range all[:400] {
			if same := state.Same(a, b); same != bytes.Equal(state.Bytes(a), state.Bytes(b)) {
				t.Fatalf("P12.1: Same of %+v and %+v: %v, of their Bytes: %v", a, b, same, !same)
			}
		}
	}
}

// TestThereAndBack: a state goes to the host and back, and so does what the host has of it.
func TestThereAndBack(t *testing.T) {
	each(func(s api.State, low int) {
		back := state.Unpack(state.Pack(s), s.Handler)
		if !state.Same(back, s) {
			t.Fatalf("P12.2: %+v came back as %+v", s, back)
		}
		want := s
		if want.Flags = low; back != want {
			t.Fatalf("P12.2: %+v came back as %+v, with more than flags in its Flags", s, back)
		}
		if state.Pack(back) != state.Pack(s) {
			t.Fatalf("P12.2: what came back of %+v isn't packed as it was", s)
		}
	})
}
