package arm

import (
	"sourdine/api"
	"sourdine/block"
	"sourdine/cond"
	"sourdine/sem"
)

// Registers that have a work of their own.
const (
	linkRegister  = 14
	placeRegister = 15
)

// numberRegister: what a Svc tells, and takes.
const numberRegister = 0

// What a Svc asks for.
const (
	askExit = 0
	askOut  = 1
	askIn   = 2
)

// Step: on to the next boundary; whether there was a step.
func (a *Machine) Step() bool { return a.next()() }

// next: what is done at this boundary.
func (a *Machine) next() func() bool {
	switch {
	case a.end != api.Running:
		return a.stay
	case a.retired >= a.fuel:
		return a.stop
	case a.interrupted():
		return a.enter
	}
	return a.run
}

// stay: nothing, as it has ended.
func (a *Machine) stay() bool { return false }

// stop: it has no fuel for another step.
func (a *Machine) stop() bool {
	a.end = api.OutFuel
	return false
}

// interrupted: whether the handler is to be entered. It isn't from within itself, so that one frame is enough: what is due there waits. Where there is none, ticks may lie as they are: nobody asks for them any more.
func (a *Machine) interrupted() bool {
	return a.due() && a.handler != 0 && !a.now.Handler
}

// due: whether there is a tick that is to be taken by now.
func (a *Machine) due() bool {
	return len(a.ticks) > 0 && a.ticks[0] <= a.retired
}

// enter: the handler is next; all ticks that are due are this one step.
func (a *Machine) enter() bool {
	for a.due() {
		a.ticks = a.ticks[1:]
	}
	a.see(api.ObsTick, 0)
	a.frame = a.now
	a.now.R[linkRegister] = sem.Return
	a.now.R[placeRegister] = a.handler
	a.now.Handler = true
	return true
}

// run: the block that is there now. It is read as a whole ahead of its first instruction, so that what it writes over itself doesn't change it.
func (a *Machine) run() bool {
	b, err := block.Find(a.m, a.now.R[placeRegister])
	if err != api.OK {
		return a.fault(err)
	}
	for k, i := range b.L {
		if err := a.do(b.Places[k], i); err != api.OK {
			return a.fault(err)
		}
	}
	if a.now.Handler && a.now.R[placeRegister] == sem.Return {
		a.leave()
	}
	return true
}

// fault: the end, by an error.
func (a *Machine) fault(err api.Errno) bool {
	a.end, a.err = api.Fault, err
	return false
}

// do: i, at place. What it let see is told even beside its error, with which it changes nothing else here.
func (a *Machine) do(place uint32, i api.Instr) api.Errno {
	behind, seen, err := sem.Step(a.now, a.m, place, i)
	a.seen = append(a.seen, seen...)
	if err != api.OK {
		return err
	}
	a.now = behind
	a.retired++
	// An Svc leaves the flags as they are: they are still those ahead of it.
	if i.Op == api.Svc && cond.Holds(i.Cond, a.now.Flags) {
		a.service(i.Imm)()
	}
	return api.OK
}

// service: what an Svc of that number asks for.
func (a *Machine) service(n uint32) func() {
	switch n {
	case askExit:
		return a.exit
	case askOut:
		return a.tell
	case askIn:
		return a.take
	}
	return a.ignore
}

// exit: the guest ends by itself.
func (a *Machine) exit() { a.end = api.Exited }

// tell: a number goes out.
func (a *Machine) tell() {
	v := a.now.R[numberRegister]
	a.out = append(a.out, v)
	a.see(api.ObsOut, v)
}

// take: the next number comes in; 0, where there is none.
func (a *Machine) take() {
	v := uint32(0)
	if len(a.in) > 0 {
		v, a.in = a.in[0], a.in[1:]
	}
	a.now.R[numberRegister] = v
}

// ignore: nothing is asked for.
func (a *Machine) ignore() {}

// leave: the handler is done, and what it broke in upon goes on.
func (a *Machine) leave() {
	a.see(api.ObsBack, 0)
	a.now = a.frame
}

// see: the guest lets see v.
func (a *Machine) see(kind int, v uint32) {
	a.seen = append(a.seen, api.Obs{Kind: kind, A: v})
}
