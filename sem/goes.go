package sem

import (
	"sourdine/api"
	"sourdine/inst"
	"sourdine/mem"
	"sourdine/word"
)

// memory: D is loaded, or stored.
func (w *work) memory() api.Errno {
	a := Address(w.before, w.place, w.i)
	if inst.Stores(w.i) {
		return w.store(a, width(w.i.Op), read(w.before, w.i.D))
	}
	v, err := w.load(a, width(w.i.Op))
	w.put(w.i.D, widened(w.i.Op, v))
	return err
}

// width: how many bytes one of Memory loads or stores.
func width(o int) uint32 {
	switch o {
	case api.Ldrb, api.Ldrsb, api.Strb:
		return 1
	case api.Ldrh, api.Ldrsh, api.Strh:
		return 2
	}
	return 4
}

// widened: the word that D is of the bytes that were loaded.
func widened(o int, v uint32) uint32 {
	switch o {
	case api.Ldrsb:
		return word.Sign(v, 8)
	case api.Ldrsh:
		return word.Sign(v, 16)
	}
	return v
}

// load: what is there, seen ahead of its error.
func (w *work) load(a, size uint32) (uint32, api.Errno) {
	w.see(api.ObsLoad, a)
	return w.m.Load(a, size)
}

// store: v goes there, seen ahead of its error; what may be run is let see itself.
func (w *work) store(a, size, v uint32) api.Errno {
	w.see(api.ObsStore, a)
	if err := w.m.Store(a, size, v); err != api.OK {
		return err
	}
	if isCode(w.m, a) {
		w.see(api.ObsCode, word.Zero(v, int(8*size)))
	}
	return api.OK
}

// isCode: whether what may be stored at a may be run, too. Regions begin and end at multiples of 4, so that the half in which a lies is of a's own; to ask for that spares a copy of all regions.
func isCode(m *mem.Mem, a uint32) bool {
	_, err := m.Half(a &^ 1)
	return err == api.OK
}

// many: the registers of List are loaded, or stored, one behind another.
func (w *work) many() api.Errno {
	first := Address(w.before, w.place, w.i)
	a := first
	for r := range registers {
		if w.i.List>>r&1 == 0 {
			continue
		}
		if err := w.pass(r, a); err != api.OK {
			return err
		}
		a += 4
	}
	switch {
	case w.i.Back && w.i.Down:
		w.put(w.i.N, first)
	case w.i.Back:
		w.put(w.i.N, a)
	}
	if inst.Branches(w.i) {
		return w.leap(w.behind.R[placeRegister])
	}
	return api.OK
}

// pass: one register of List comes from memory, or goes there.
func (w *work) pass(r int, a uint32) api.Errno {
	if inst.Stores(w.i) {
		return w.store(a, 4, read(w.before, r))
	}
	v, err := w.load(a, 4)
	w.put(r, v)
	return err
}

// leap: on to a value, whose lowest bit says that it is a place.
func (w *work) leap(v uint32) api.Errno {
	switch {
	case v == Return:
		w.put(placeRegister, Return)
	case v&1 == 0:
		return api.ErrState
	default:
		w.put(placeRegister, v-1)
	}
	return api.OK
}

// branch: on to another place than the next, or not. (A B whose condition doesn't hold is like all else of that kind.)
func (w *work) branch() api.Errno {
	switch w.i.Op {
	case api.Bl:
		w.put(linkRegister, w.place+4+1)
	case api.Blx:
		w.put(linkRegister, w.place+2+1)
	}
	switch {
	case w.i.Op == api.Bx, w.i.Op == api.Blx:
		return w.leap(read(w.before, w.i.M))
	case w.jumps():
		w.put(placeRegister, w.place+4+w.i.Imm)
	}
	return api.OK
}

// jumps: whether one that says its place itself goes there.
func (w *work) jumps() bool {
	switch w.i.Op {
	case api.Cbz:
		return read(w.before, w.i.N) == 0
	case api.Cbnz:
		return read(w.before, w.i.N) != 0
	}
	return true
}
