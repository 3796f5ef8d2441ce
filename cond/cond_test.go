package cond_test

import (
	"math"
	"slices"
	"testing"

	"sourdine/api"
	"sourdine/cond"
)

// strange: numbers that are no condition.
var strange = []int{math.MinInt, -1 << 32, -16, -15, -14, -2, -1, 15, 16, 17, 30, 1<<32 + 1, 1<<32 + 14, math.MaxInt}

var bools = []bool{false, true}

// rows: chapter 2's conditions from 0 on, each with its name and where it holds.
var rows = []struct {
	name  string
	holds func(n, z, c, v bool) bool
}{
	{"eq", func(n, z, c, v bool) bool { return z }},
	{"ne", func(n, z, c, v bool) bool { return !z }},
	{"cs", func(n, z, c, v bool) bool { return c }},
	{"cc", func(n, z, c, v bool) bool { return !c }},
	{"mi", func(n, z, c, v bool) bool { return n }},
	{"pl", func(n, z, c, v bool) bool { return !n }},
	{"vs", func(n, z, c, v bool) bool { return v }},
	{"vc", func(n, z, c, v bool) bool { return !v }},
	{"hi", func(n, z, c, v bool) bool { return c && !z }},
	{"ls", func(n, z, c, v bool) bool { return !c || z }},
	{"ge", func(n, z, c, v bool) bool { return n && v || !n && !v }},
	{"lt", func(n, z, c, v bool) bool { return n && !v || !n && v }},
	{"gt", func(n, z, c, v bool) bool { return !z && (n && v || !n && !v) }},
	{"le", func(n, z, c, v bool) bool { return z || n && !v || !n && v }},
	{"al", func(n, z, c, v bool) bool { return true }},
}

// everyFlag calls look with each choice of N, Z, C, V and the number that chapter 2 gives it.
func everyFlag(look func(n, z, c, v bool, flags int)) {
	for _, n := range bools {
		for _, z := range bools {
			for _, c := range bools {
				for _, v := range bools {
					flags := 0
					for _, x := range []struct {
						set bool
						bit int
					}{{n, api.N}, {z, api.Z}, {c, api.C}, {v, api.V}} {
						if x.set {
							flags += x.bit
						}
					}
					look(n, z, c, v, flags)
				}
			}
		}
	}
}

func TestOf(t *testing.T) {
	everyFlag(func(n, z, c, v bool, flags int) {
		if got := cond.Of(n, z, c, v); got != flags {
			t.Errorf("P2.1: Of(%v, %v, %v, %v): %d, not %d", n, z, c, v, got, flags)
		}
	})
	if cond.Of(true, false, false, false) != 8 || cond.Of(false, true, false, false) != 4 || cond.Of(false, false, true, false) != 2 || cond.Of(false, false, false, true) != 1 {
		t.Error("P2.1: Of, of one flag each")
	}
}

func TestResult(t *testing.T) {
	for _, x := range []struct {
		v    uint32
		want int
	}{
		{0, api.Z}, {1, 0}, {2, 0}, {0x12345678, 0}, {0x40000000, 0}, {0x7fffffff, 0},
		{0x80000000, api.N}, {0x80000001, api.N}, {0xdeadbeef, api.N}, {0xffffffff, api.N},
	} {
		for _, c := range bools {
			for _, ov := range bools {
				want := x.want
				if c {
					want += 2
				}
				if ov {
					want += 1
				}
				if got := cond.Result(x.v, c, ov); got != want {
					t.Errorf("P2.1: Result(%#x, %v, %v): %d, not %d", x.v, c, ov, got, want)
				}
			}
		}
	}
}

func TestHolds(t *testing.T) {
	above := []int{0, 16, 32, 1 << 8, 1 << 40, -16, -1 << 40, math.MinInt, math.MaxInt - 15}
	everyFlag(func(n, z, c, v bool, flags int) {
		for k, row := range rows {
			for _, more := range above {
				if got := cond.Holds(k, more+flags); got != row.holds(n, z, c, v) {
					t.Errorf("P2.1: Holds(%s, %d): %v", row.name, more+flags, got)
				}
			}
		}
		for _, k := range strange {
			if cond.Holds(k, flags) {
				t.Errorf("P2.1: Holds(%d, %d)", k, flags)
			}
		}
	})
}

func TestNot(t *testing.T) {
	for k, want := range []int{1, 0, 3, 2, 5, 4, 7, 6, 9, 8, 11, 10, 13, 12, 14} {
		if got := cond.Not(k); got != want {
			t.Errorf("P2.1: Not(%d): %d", k, got)
		}
	}
	for _, k := range strange {
		if got := cond.Not(k); got != k {
			t.Errorf("P2.1: Not(%d): %d", k, got)
		}
	}
}

func TestName(t *testing.T) {
	for k, row := range rows {
		if got := cond.Name(k); got != row.name {
			t.Errorf("P2.1: Name(%d): %q, not %q", k, got, row.name)
		}
	}
	for _, k := range strange {
		if got := cond.Name(k); got != "?" {
			t.Errorf("P2.1: Name(%d): %q", k, got)
		}
	}
}

// masks: for each mask from 1 to 15, the bits that stand above its lowest 1, from the highest on.
var masks = []string{1: "000", 2: "00", 3: "001", 4: "0", 5: "010", 6: "01", 7: "011", 8: "", 9: "100", 10: "10", 11: "101", 12: "1", 13: "110", 14: "11", 15: "111"}

// itModel: chapter 2's It, of fields from 0 to 15.
func itModel(first, mask int) ([]int, bool) {
	if mask == 0 || first == 15 {
		return nil, false
	}
	if first == 14 && !slices.Contains([]int{8, 4, 2, 1}, mask) {
		return nil, false
	}
	conds := []int{first}
	for _, bit := range masks[mask] {
		other := first
		if int(bit-'0') != first%2 {
			other = []int{1, 0, 3, 2, 5, 4, 7, 6, 9, 8, 11, 10, 13, 12, 14}[first]
		}
		conds = append(conds, other)
	}
	return conds, true
}

func TestIt(t *testing.T) {
	for first := range 16 {
		for mask := range 16 {
			want, wantIs := itModel(first, mask)
			got, is := cond.It(first, mask)
			if !slices.Equal(got, want) || is != wantIs {
				t.Errorf("P2.2: It(%d, %d): %v, %v, not %v, %v", first, mask, got, is, want, wantIs)
			}
		}
	}
}

func TestItByHand(t *testing.T) {
	for _, x := range []struct {
		first, mask int
		want        []int
	}{
		{0, 8, []int{0}},               // it eq
		{0, 12, []int{0, 1}},           // ite eq
		{1, 4, []int{1, 0}},            // ite ne
		{12, 6, []int{12, 12, 13}},     // itte gt
		{13, 3, []int{13, 12, 12, 13}}, // iteet le
		{9, 11, []int{9, 9, 8, 9}},     // ittet ls
		{14, 1, []int{14, 14, 14, 14}}, // itttt al
	} {
		if got, is := cond.It(x.first, x.mask); !slices.Equal(got, x.want) || !is {
			t.Errorf("P2.2: It(%d, %d): %v, %v", x.first, x.mask, got, is)
		}
	}
}

func TestItRefused(t *testing.T) {
	refused := func(first, mask int) {
		if got, is := cond.It(first, mask); len(got) != 0 || is {
			t.Errorf("P2.2: It(%d, %d): %v, %v", first, mask, got, is)
		}
	}
	for k := range 16 {
		refused(k, 0)
		refused(15, k)
		for _, far := range strange {
			if far < 0 || far > 15 {
				refused(far, k)
				refused(k, far)
			}
		}
	}
	for _, mask := range []int{3, 5, 6, 7, 9, 10, 11, 12, 13, 14, 15} {
		refused(14, mask)
	}
}

// TestItIsNew: what is done to one answer is not seen in the next.
func TestItIsNew(t *testing.T) {
	got, _ := cond.It(0, 1)
	for i := range got {
		got[i] = 99
	}
	if again, _ := cond.It(0, 1); !slices.Equal(again, []int{0, 0, 0, 0}) {
		t.Errorf("P2.2: It told twice: %v", again)
	}
}

func TestOneOfTwoHolds(t *testing.T) {
	for k := range 15 {
		for flags := range 16 {
			if !cond.Holds(k, flags) && !cond.Holds(cond.Not(k), flags) {
				t.Errorf("P2.3: neither %d nor its Not holds of %d", k, flags)
			}
			if k < 14 && cond.Holds(k, flags) && cond.Holds(cond.Not(k), flags) {
				t.Errorf("P2.3: both %d and its Not hold of %d", k, flags)
			}
		}
	}
}
