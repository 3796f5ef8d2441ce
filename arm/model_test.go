package arm_test

import (
	"slices"
	"testing"

	"sourdine/api"
	"sourdine/arm"
	"sourdine/fetch"
	"sourdine/mem"
	"sourdine/sem"
	"sourdine/state"
)

// model: the chapter once more. It reads each instruction from a copy of what was there at the boundary, just ahead of doing it, and marks each tick by itself.
type model struct {
	x       api.Image
	sc      api.Script
	s       api.State
	m       *mem.Mem
	frames  []api.State
	taken   []bool
	asked   int
	obs     []api.Obs
	out     []uint32
	retired int
	end     int
	err     api.Errno
}

// newModel: x and sc must be right ones.
func newModel(t *testing.T, x api.Image, sc api.Script) *model {
	t.Helper()
	m, err := mem.New(x.Regions)
	if err != api.OK {
		t.Fatalf("mem.New: %d", err)
	}
	return &model{x: x, sc: sc, s: state.New(x.Entry, x.SP), m: m, taken: make([]bool, len(sc.Ticks))}
}

// step: as the machine's.
func (o *model) step() bool {
	if o.end != api.Running {
		return false
	}
	if o.retired >= max(o.sc.Fuel, 0) {
		o.end = api.OutFuel
		return false
	}
	if (o.x.Tick == 0 || !o.s.Handler) && o.mark() && o.x.Tick != 0 {
		o.obs = append(o.obs, api.Obs{Kind: api.ObsTick})
		o.frames = append(o.frames, o.s)
		o.s.R[14], o.s.R[15], o.s.Handler = 0xfffffff9, o.x.Tick, true
		return true
	}
	if o.err = o.block(); o.err != api.OK {
		o.end = api.Fault
		return false
	}
	if last := len(o.frames) - 1; o.s.Handler && o.s.R[15] == 0xfffffff9 {
		o.obs = append(o.obs, api.Obs{Kind: api.ObsBack})
		o.s, o.frames = o.frames[last], o.frames[:last]
	}
	return true
}

// mark: takes all that is due; whether there was any.
func (o *model) mark() bool {
	any := false
	for k, n := range o.sc.Ticks {
		if n <= o.retired && !o.taken[k] {
			o.taken[k], any = true, true
		}
	}
	return any
}

// block: instruction by instruction, up to where a block ends.
func (o *model) block() api.Errno {
	then, it := o.m.Copy(), fetch.It{}
	for count := 0; count < 16 || len(it.Conds) > 0; count++ {
		i, rest, err := fetch.At(then, o.s.R[15], it)
		if err != api.OK && count > 0 {
			return api.OK
		}
		if err != api.OK {
			return err
		}
		if err := o.one(i); err != api.OK {
			return err
		}
		if it = rest; last(i) {
			return api.OK
		}
	}
	return api.OK
}

// last: whether a block ends with i.
func last(i api.Instr) bool {
	if i.Op == api.Ldm {
		return i.List >= 1<<15
	}
	return slices.Contains([]int{api.B, api.Bl, api.Bx, api.Blx, api.Cbz, api.Cbnz, api.Svc, api.Bkpt, api.Undefined, api.Unpredictable}, i.Op)
}

// one: the instruction that stands where the model is.
func (o *model) one(i api.Instr) api.Errno {
	was := o.s
	s, obs, err := sem.Step(o.s, o.m, o.s.R[15], i)
	o.obs = append(o.obs, obs...)
	if err != api.OK {
		return err
	}
	o.s = s
	o.retired++
	if i.Op == api.Svc && holds(i.Cond, was.Flags) {
		o.service(i.Imm)
	}
	return api.OK
}

// holds: whether a condition does, by pairs of them.
func holds(c, flags int) bool {
	n, z, cy, v := flags&8 != 0, flags&4 != 0, flags&2 != 0, flags&1 != 0
	pair := []bool{z, cy, n, v, cy && !z, n == v, !z && n == v, true}[c/2]
	return pair == (c%2 == 0)
}

// service: what an Svc does.
func (o *model) service(n uint32) {
	switch n {
	case 0:
		o.end = api.Exited
	case 1:
		o.out = append(o.out, o.s.R[0])
		o.obs = append(o.obs, api.Obs{Kind: api.ObsOut, A: o.s.R[0]})
	case 2:
		o.s.R[0] = 0
		if o.asked < len(o.sc.In) {
			o.s.R[0] = o.sc.In[o.asked]
		}
		o.asked++
	}
}

// same: holds the machine against the model, in all that it tells.
func (o *model) same(t *testing.T, promise string, a *arm.Machine) bool {
	t.Helper()
	end, err := a.End()
	switch {
	case a.State() != o.s:
		t.Errorf("%s: State %+v, not %+v", promise, a.State(), o.s)
	case a.Retired() != o.retired:
		t.Errorf("%s: Retired %d, not %d", promise, a.Retired(), o.retired)
	case end != o.end || err != o.err:
		t.Errorf("%s: End %d, %d, not %d, %d", promise, end, err, o.end, o.err)
	case !slices.Equal(a.Out(), o.out):
		t.Errorf("%s: Out %v, not %v", promise, a.Out(), o.out)
	case !slices.Equal(a.Obs(), o.obs):
		t.Errorf("%s: Obs %v, not %v", promise, a.Obs(), o.obs)
	case !a.Mem().Same(o.m):
		t.Errorf("%s: Mem isn't the same", promise)
	default:
		return true
	}
	return false
}
