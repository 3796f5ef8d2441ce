package region_test

import (
	"math/big"
	"math/rand"
	"slices"
	"testing"

	"sourdine/api"
	"sourdine/region"
)

// reg: a region; how has a letter of "rwxs" for each thing that it is.
func reg(from, size uint32, how string, bytes int) api.Region {
	r := api.Region{From: from, Len: size, Bytes: make([]byte, bytes)}
	for _, c := range how {
		switch c {
		case 'r':
			r.Read = true
		case 'w':
			r.Write = true
		case 'x':
			r.Exec = true
		case 's':
			r.Secret = true
		}
	}
	return r
}

// row: n regions of 4 bytes, with holes between them.
func row(n int) []api.Region {
	l := []api.Region{}
	for i := range n {
		l = append(l, reg(uint32(16*i), 4, "r", 0))
	}
	return l
}

func TestCheckByHand(t *testing.T) {
	type list = []api.Region
	for _, x := range []struct {
		name string
		l    list
		want api.Errno
	}{
		{"none", nil, 0},
		{"none, not nil", list{}, 0},
		{"MaxRegions", row(8), 0},
		{"one more", row(9), api.ErrLimit},
		{"many more", row(1000), api.ErrLimit},
		{"MaxBytes", list{reg(0x100, 65536, "r", 0)}, 0},
		{"MaxBytes in two", list{reg(0, 65532, "r", 0), reg(65536, 4, "r", 0)}, 0},
		{"MaxBytes and 4", list{reg(0, 65540, "r", 0)}, api.ErrLimit},
		{"MaxBytes and 4 in two", list{reg(0, 65536, "r", 0), reg(65536, 4, "r", 0)}, api.ErrLimit},
		{"MaxBytes and 1", list{reg(0, 65537, "r", 0)}, api.ErrLimit},
		{"lengths that are 0 modulo 2^32", list{reg(0, 1<<31, "r", 0), reg(1<<31, 1<<31, "r", 0)}, api.ErrLimit},
		{"the greatest lengths", slices.Repeat(list{reg(0, 0xffffffff, "r", 0)}, 8), api.ErrLimit},
		{"the limit is told ahead of a region", list{reg(1, 0, "xs", 9), reg(0, 65540, "r", 0)}, api.ErrLimit},
		{"the number of regions is told ahead of a region", slices.Repeat(list{reg(1, 0, "xs", 9)}, 9), api.ErrLimit},
		{"From and 1", list{reg(1, 4, "r", 0)}, api.ErrRegion},
		{"From and 2", list{reg(2, 4, "r", 0)}, api.ErrRegion},
		{"From and 3", list{reg(3, 4, "r", 0)}, api.ErrRegion},
		{"Len and 1", list{reg(4, 5, "r", 0)}, api.ErrRegion},
		{"Len and 2", list{reg(4, 6, "r", 0)}, api.ErrRegion},
		{"Len and 3", list{reg(4, 7, "r", 0)}, api.ErrRegion},
		{"no Len", list{reg(4, 0, "r", 0)}, api.ErrRegion},
		{"no Len behind one", list{reg(0, 4, "r", 0), reg(4, 0, "r", 0)}, api.ErrRegion},
		{"up to the ceiling", list{reg(0xffffeffc, 4, "r", 4)}, 0},
		{"up to the ceiling, the most", list{reg(0xfffef000, 65536, "r", 0)}, 0},
		{"over it", list{reg(0xffffeffc, 8, "r", 0)}, api.ErrRegion},
		{"from it on", list{reg(0xfffff000, 4, "r", 0)}, api.ErrRegion},
		{"to 2^32", list{reg(0xfffffffc, 4, "r", 0)}, api.ErrRegion},
		{"beyond 2^32", list{reg(0xfffffffc, 8, "r", 0)}, api.ErrRegion},
		{"beside one another", list{reg(8, 8, "r", 0), reg(16, 4, "r", 0)}, 0},
		{"meeting", list{reg(8, 8, "r", 0), reg(12, 4, "r", 0)}, api.ErrRegion},
		{"twice the same", list{reg(8, 8, "r", 0), reg(8, 8, "r", 0)}, api.ErrRegion},
		{"one inside another", list{reg(8, 32, "r", 0), reg(16, 4, "r", 0)}, api.ErrRegion},
		{"falling", list{reg(16, 4, "r", 0), reg(8, 4, "r", 0)}, api.ErrRegion},
		{"falling at last", list{reg(0, 4, "r", 0), reg(16, 4, "r", 0), reg(8, 4, "r", 0)}, api.ErrRegion},
		{"all Bytes", list{reg(8, 4, "r", 4)}, 0},
		{"one byte more", list{reg(8, 4, "r", 5)}, api.ErrRegion},
		{"Bytes beyond MaxBytes", list{reg(8, 4, "r", 65540)}, api.ErrRegion},
		{"Exec and Secret", list{reg(8, 4, "xs", 0)}, api.ErrRegion},
		{"all at once", list{reg(8, 4, "rwxs", 0)}, api.ErrRegion},
		{"Exec, and Secret", list{reg(8, 4, "rws", 0), reg(16, 4, "rwx", 0)}, 0},
		{"nothing may be done", list{reg(8, 4, "", 4)}, 0},
		{"a wrong one at last", append(row(7), reg(0x1000, 4, "r", 5)), api.ErrRegion},
	} {
		if got := region.Check(x.l); got != x.want {
			t.Errorf("P3.1: Check of %s: %d, not %d", x.name, got, x.want)
		}
	}
}

// checkModel: chapter 3's Check, by numbers of any size.
func checkModel(l []api.Region) api.Errno {
	all := new(big.Int)
	for _, r := range l {
		all.Add(all, big.NewInt(int64(r.Len)))
	}
	if len(l) > 8 || all.Cmp(big.NewInt(65536)) > 0 {
		return api.ErrLimit
	}
	for i, r := range l {
		past := new(big.Int).Add(big.NewInt(int64(r.From)), big.NewInt(int64(r.Len)))
		wrong := []bool{
			r.From&3 != 0, r.Len&3 != 0, r.Len == 0,
			past.Cmp(big.NewInt(1<<32-4096)) > 0,
			i > 0 && int64(r.From) <= int64(l[max(i-1, 0)].From)+int64(l[max(i-1, 0)].Len)-1,
			int64(len(r.Bytes)) > int64(r.Len),
			r.Exec && r.Secret,
		}
		if slices.Contains(wrong, true) {
			return api.ErrRegion
		}
	}
	return 0
}

// anyList: regions of which most lists are right, and some are wrong in a few ways.
func anyList(rnd *rand.Rand) []api.Region {
	l := []api.Region{}
	at := uint32(rnd.Intn(3) * 4)
	if rnd.Intn(6) == 0 {
		at = 1<<32 - 4096 - uint32(4*rnd.Intn(12))
	}
	for range rnd.Intn(6) {
		how := ""
		for _, c := range []string{"r", "w", "x", "s"} {
			if rnd.Intn(2) == 0 && !(c == "s" && len(how) > 0 && how[len(how)-1] == 'x' && rnd.Intn(8) > 0) {
				how += c
			}
		}
		r := reg(at, uint32(4*(1+rnd.Intn(4))), how, 0)
		r.Bytes = make([]byte, rnd.Intn(int(r.Len)+1))
		at = r.From + r.Len + uint32(4*rnd.Intn(3))
		switch rnd.Intn(60) {
		case 0:
			r.From += uint32(rnd.Intn(4))
		case 1:
			r.Len += uint32(rnd.Intn(4))
		case 2:
			r.Len = 0
		case 3:
			r.From -= 4
		case 4:
			r.Bytes = make([]byte, int(r.Len)+rnd.Intn(2))
		case 5:
			at = 0
		case 6:
			r.Len = []uint32{65536, 65540, 1 << 31, 0xfffffffc}[rnd.Intn(4)]
		}
		l = append(l, r)
	}
	return l
}

func TestCheck(t *testing.T) {
	rnd := rand.New(rand.NewSource(3))
	told := map[api.Errno]int{}
	for range 20000 {
		l := anyList(rnd)
		want := checkModel(l)
		told[want]++
		if got := region.Check(l); got != want {
			t.Fatalf("P3.1: Check(%+v): %d, not %d", l, got, want)
		}
	}
	if told[0] < 1000 || told[api.ErrRegion] < 1000 || told[api.ErrLimit] < 100 {
		t.Errorf("lists that are too much alike: %v", told)
	}
}

// owners: for each place of l the bytes that its region has.
func owners(l []api.Region) map[uint32]int {
	all := map[uint32]int{}
	for i, r := range l {
		for k := range r.Len {
			all[r.From+k] = i
		}
	}
	return all
}

// want: what chapter 3 tells of size bytes from a on.
type want struct {
	at          int
	is          bool
	read, write api.Errno
	exec        api.Errno
	secret      bool
	fixed       bool
}

// askModel: the answers of all calls at a, of l that Check takes; all has the bytes of l.
func askModel(l []api.Region, all map[uint32]int, a, size uint32) want {
	if size != 1 && size != 2 {
		size = 4
	}
	has := func(n uint32) (int, bool) {
		at, is := all[a]
		for k := range n {
			// Behind the last address there is nothing, though the sum comes round.
			i, ok := all[a+k]
			is = is && ok && i == at && a+k >= a
		}
		return at, is
	}
	w := want{read: api.ErrAccess, write: api.ErrAccess, exec: api.ErrExec}
	if at, is := has(size); is {
		w.at, w.is = at, is
		r := l[at]
		if r.Read {
			w.read = 0
		}
		if r.Write {
			w.write = 0
		}
		w.secret = r.Secret
		w.fixed = r.Read && !r.Write && !r.Secret
	}
	if a&(size-1) != 0 {
		w.read, w.write = api.ErrAlign, api.ErrAlign
	}
	if at, is := has(2); is && a&1 == 0 && l[at].Exec {
		w.exec = 0
	}
	return w
}

// ask: the answers of all calls at a.
func ask(l []api.Region, a, size uint32) want {
	at, is := region.Find(l, a, size)
	return want{
		at: at, is: is,
		read: region.May(l, a, size, false), write: region.May(l, a, size, true),
		exec: region.Exec(l, a), secret: region.Secret(l, a, size), fixed: region.Fixed(l, a, size),
	}
}

// sizes: those that are taken as they are, and some that count as 4.
var sizes = []uint32{1, 2, 4, 0, 3, 5, 8, 9, 255, 65536, 1 << 31, 0xfffffffe, 0xffffffff}

func TestAsk(t *testing.T) {
	rnd := rand.New(rand.NewSource(32))
	for range 2000 {
		l := anyList(rnd)
		right := checkModel(l) == 0
		all := map[uint32]int{}
		if right {
			all = owners(l)
		}
		near := []uint32{0, 1, 2, 0x80000000, 0xfffff000, 0xfffffffd, 0xfffffffe, 0xffffffff}
		for _, r := range l {
			for k := range uint32(6) {
				near = append(near, r.From+k-3, r.From+r.Len+k-5)
			}
		}
		for _, a := range near {
			for _, size := range sizes {
				w := want{read: api.ErrAccess, write: api.ErrAccess, exec: api.ErrExec}
				if right {
					w = askModel(l, all, a, size)
				}
				if got := ask(l, a, size); got != w {
					t.Fatalf("P3.2: at %#x, size %d of %+v: %+v, not %+v", a, size, l, got, w)
				}
			}
		}
	}
}

func TestAskByHand(t *testing.T) {
	l := []api.Region{
		reg(8, 8, "r", 0), reg(16, 8, "rwx", 0), reg(32, 4, "ws", 0), reg(40, 4, "rs", 3),
		reg(48, 4, "rw", 0), reg(56, 4, "x", 0), reg(64, 4, "", 0), reg(0xffffeffc, 4, "rx", 0),
	}
	acc, ali, exe := api.ErrAccess, api.ErrAlign, api.ErrExec
	for _, x := range []struct {
		a, size uint32
		want    want
	}{
		{8, 4, want{0, true, 0, acc, exe, false, true}},
		{15, 1, want{0, true, 0, acc, exe, false, true}},
		{14, 2, want{0, true, 0, acc, exe, false, true}},
		{12, 7, want{0, true, 0, acc, exe, false, true}},
		{12, 0, want{0, true, 0, acc, exe, false, true}},
		{10, 4, want{0, true, ali, ali, exe, false, true}},
		{9, 2, want{0, true, ali, ali, exe, false, true}},
		{14, 4, want{0, false, ali, ali, exe, false, false}}, // 8's and 16's: of no one region
		{15, 2, want{0, false, ali, ali, exe, false, false}},
		{16, 4, want{1, true, 0, 0, 0, false, false}},
		{22, 2, want{1, true, 0, 0, 0, false, false}},
		{23, 1, want{1, true, 0, 0, exe, false, false}},
		{24, 1, want{0, false, acc, acc, exe, false, false}},
		{32, 4, want{2, true, acc, 0, exe, true, false}},
		{40, 4, want{3, true, 0, acc, exe, true, false}},
		{43, 1, want{3, true, 0, acc, exe, true, false}}, // behind Bytes: a nought, and there
		{48, 2, want{4, true, 0, 0, exe, false, false}},
		{56, 4, want{5, true, acc, acc, 0, false, false}},
		{64, 4, want{6, true, acc, acc, exe, false, false}},
		{0xffffeffc, 4, want{7, true, 0, acc, 0, false, true}},
		{0xffffeffe, 4, want{0, false, ali, ali, 0, false, false}},
		{0xfffffffc, 4, want{0, false, acc, acc, exe, false, false}},
		{0xfffffffe, 4, want{0, false, ali, ali, exe, false, false}},
		{0, 4, want{0, false, acc, acc, exe, false, false}},
	} {
		if got := ask(l, x.a, x.size); got != x.want {
			t.Errorf("P3.2: at %#x, size %d: %+v, not %+v", x.a, x.size, got, x.want)
		}
	}
}

func TestAskOfWrongLists(t *testing.T) {
	nothing := want{read: api.ErrAccess, write: api.ErrAccess, exec: api.ErrExec}
	for i, l := range [][]api.Region{
		nil,
		{},
		{reg(16, 8, "rwx", 9)},
		{reg(16, 8, "rwx", 0), reg(16, 8, "rwx", 0)},
		{reg(16, 8, "rws", 0), reg(0xfffff000, 4, "r", 0)},
		{reg(16, 8, "r", 0), reg(8, 8, "r", 0)},
		{reg(16, 8, "r", 0), reg(32, 65536, "r", 0)},
		append([]api.Region{reg(16, 8, "rx", 0)}, slices.Repeat([]api.Region{reg(64, 4, "r", 0)}, 8)...),
	} {
		for _, a := range []uint32{16, 20} {
			if got := ask(l, a, 4); got != nothing {
				t.Errorf("P3.2: of wrong list %d: %+v", i, got)
			}
		}
		want := api.ErrAccess
		if len(l) == 0 {
			want = api.ErrAlign // a list of none is a right one
		}
		if got := region.May(l, 17, 4, false); got != want {
			t.Errorf("P3.2: May at 17 of wrong list %d: %d, not %d", i, got, want)
		}
	}
}

// TestOneRegion: each byte of a list that Check takes is found where it is, and nowhere else.
func TestOneRegion(t *testing.T) {
	rnd := rand.New(rand.NewSource(33))
	for range 2000 {
		l := anyList(rnd)
		if region.Check(l) != 0 {
			continue
		}
		for _, r := range append([]api.Region{{From: 0, Len: 64}}, l...) {
			for a := r.From; a != r.From+r.Len; a++ {
				have := []int{}
				for i, o := range l {
					if a >= o.From && a <= o.From+o.Len-1 {
						have = append(have, i)
					}
				}
				at, is := region.Find(l, a, 1)
				if len(have) > 1 || is != (len(have) == 1) || is && at != have[0] {
					t.Fatalf("P3.3: byte %#x is of %v, Find tells %d, %v", a, have, at, is)
				}
			}
		}
	}
}

// TestNothingChanged: what is handed in stays as it was, the room behind it too.
func TestNothingChanged(t *testing.T) {
	make8 := func() []api.Region {
		l := append(make([]api.Region, 0, 4), reg(8, 8, "rw", 8), reg(16, 8, "rx", 4), reg(32, 4, "s", 0))
		for i := range l[0].Bytes {
			l[0].Bytes[i] = byte(i)
		}
		return l
	}
	l := make8()
	region.Check(l)
	for a := range uint32(40) {
		ask(l, a, 1+a%4)
	}
	old := make8()
	for i, r := range l[:4] {
		o := old[:4][i]
		if !slices.Equal(r.Bytes, o.Bytes) || r.From != o.From || r.Len != o.Len || r.Read != o.Read || r.Write != o.Write || r.Exec != o.Exec || r.Secret != o.Secret {
			t.Errorf("P3.2: region %d was changed: %+v", i, r)
		}
	}
}
