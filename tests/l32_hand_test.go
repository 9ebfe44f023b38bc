package tests

import (
	"slices"

	"loop.example/entail/impl"
)

// stays says whether a machine has ended, or is full.
func (h vmHand) stays() bool {
	return h.m.End != 0 || h.m.Steps == 200 || len(h.m.Said) == 200
}

// asMach is the machine with the things of its memory as its own, in memory of its own.
func (h vmHand) asMach() impl.Mach {
	m := copyMach(h.m)
	m.Objs = h.mem.copied().objs
	return m
}

// withMach is a machine with the things of another one, which are in the parts in which they were.
func (h vmHand) withMach(m impl.Mach) vmHand {
	h.mem.objs = m.Objs
	h.mem = h.mem.withNeeded()
	m.Objs = nil
	h.m = m
	return h
}

// settled has in each local that is of no type by now the number that stands there.
func (h vmHand) settled() vmHand {
	h = h.copied()
	for _, f := range h.m.Frames {
		for k, t := range h.all[f.Method][f.At].Locals {
			if t == 0 {
				f.Locals[k] = word(h.mem.valueIn(f.Locals[k]))
			}
		}
	}
	return h
}

// insHand is the instruction that is next, with what that takes.
func (h vmHand) insHand() stepHand {
	s := stepHand{hand: h.hand, m: h.asMach()}
	s.f = copyMach(h.m).Frames[len(h.m.Frames)-1]
	s.i = h.u.Methods[s.f.Method].Code[s.f.At]
	s.take()
	return s
}

// thingMade is what an instruction is to make; false, if it makes nothing.
func (h vmHand) thingMade(s stepHand) (impl.Obj, bool) {
	switch s.i.Kind {
	case impl.InsNew:
		return h.mem.newObj(s.i.A, 0)
	case impl.InsArr:
		return h.mem.newObj(-1-s.i.A, s.taken[0].N)
	}
	return impl.Obj{}, false
}

// withThrown is that thing of its memory thrown.
func (h vmHand) withThrown(n int) vmHand {
	return h.withMach(h.throwByHand(h.asMach(), n)).settled()
}

// withNew is the thing made, and on top, or room that is short; both behind all that was moved for it.
func (h vmHand) withNew(o impl.Obj, taken int) (vmHand, bool) {
	r, at := h.rooted().make(o)
	h.mem = r.memHand
	for i, v := range h.rootSpots() {
		v.N = r.roots[i]
	}
	if at == 0 {
		h.short = true
		return h.withThrown(h.faults[6].N), true
	}
	f := last(&h.m)
	f.Stack = append(f.Stack[:len(f.Stack)-taken], ref(slices.Index(h.mem.places(), at)+1))
	f.At++
	return h.settled(), false
}

// stepped is VmStep of a machine that is ok, and whether room became short.
func (h vmHand) stepped() (vmHand, bool) {
	if h.stays() {
		return h, false
	}
	h = h.copied()
	h.m.Steps++
	s := h.insHand()
	if o, makes := h.thingMade(s); makes {
		return h.withNew(o, len(s.taken))
	}
	n := s.thrown()
	switch {
	case n == 0:
		return h.withMach(s.done(h.asMach())).settled(), false
	case s.i.Kind == impl.InsThrow && s.taken[0].N > 0:
		return h.withThrown(n), false
	}
	return h.withThrown(h.faults[n-1].N), false
}

// newVmHand is VmNew of a unit that is passed, in parts that may be.
func newVmHand(own machHand, young int, old int) vmHand {
	h := vmHand{machHand: own, mem: emptyMem(own.u.Classes, young, old), faults: refs(1, 2, 3, 4, 5, 6, 7), m: newByHand(own.u)}
	h.mem.objs = firstThings()
	h.m.Objs = nil
	return h
}

// vmRunHand is all machines of a run, from the beginning on, each with a step more, till it stays; and ahead of which of its steps room was not short yet, but is behind it.
type vmRunHand struct {
	all    []vmHand
	shorts []bool
}

func runVmByHand(own machHand, young int, old int, forced []int) vmRunHand {
	h := newVmHand(own, young, old)
	run := vmRunHand{all: []vmHand{h}}
	for i := 0; !h.stays(); i++ {
		if i < len(forced) {
			h, _ = h.forced(forced[i])
		}
		short := false
		h, short = h.stepped()
		run.all, run.shorts = append(run.all, h), append(run.shorts, short)
	}
	return run
}

// behind is the machine behind so many steps, or behind the last one.
func (r vmRunHand) behind(steps int) vmHand {
	return r.all[min(steps, len(r.all)-1)]
}

// firstShort is behind how many steps room became short in the next one; -1, if it never did.
func (r vmRunHand) firstShort() int {
	return slices.Index(r.shorts, true)
}
