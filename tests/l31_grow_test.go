package tests

import (
	"slices"
	"testing"

	"loop.example/entail/impl"
)

// someYoung is which things are to be young: as many as have room, or few of them, or none.
func (d *dice) someYoung(objs []impl.Obj, words int) []int {
	var young []int
	for _, i := range d.someOrder(len(objs)) {
		if size := sizeOf(objs[i]); size <= words && d.roll(3) > 0 {
			young = append(young, i)
			words -= size
		}
	}
	return young
}

// someLoose is what a local of no type may hold: numbers that are places, words, and neither.
func (d *dice) someLoose() int {
	return pick(d, []int{0, 0, 1, d.roll(160), d.roll(160), -1, 300, d.roll(256) - 128, pick(d, farInts())})
}

// laidIn has the things of a machine that fits in a memory of a young part of so many words, and of an old one of at least so many, in any order; false, if there is no room.
func (d *dice) laidIn(own machHand, m impl.Mach, young int, old int) (vmHand, bool) {
	order := d.someYoung(m.Objs, young)
	inYoung := len(order)
	for _, i := range d.someOrder(len(m.Objs)) {
		if !slices.Contains(order, i) {
			order = append(order, i)
		}
	}
	h := vmHand{machHand: own, m: copyMach(m), short: d.roll(4) == 0}
	out := inOrder(heap{m.Objs, refs(1, 2, 3, 4, 5, 6, 7)}, order)
	for _, v := range spots(&h.m) {
		if v.Ref && v.N > 0 {
			v.N = slices.Index(order, v.N-1) + 1
		}
	}
	for _, f := range h.m.Frames {
		for k, t := range own.all[f.Method][f.At].Locals {
			if t == impl.TypeNone {
				f.Locals[k] = word(d.someLoose())
			}
		}
	}
	words := sizesOf(out.objs[inYoung:])
	h.mem = emptyMem(own.u.Classes, young, max(old, words))
	h.mem.objs, h.mem.inYoung, h.faults = out.objs, inYoung, out.roots
	h.mem = d.someCards(h.mem)
	h.m.Objs = nil
	return h, words <= impl.OldMax
}

// laid has the things of a machine that fits in some memory; false, if there is no room.
func (d *dice) laid(own machHand, m impl.Mach) (vmHand, bool) {
	young := pick(d, []int{0, d.roll(41), d.roll(41), impl.YoungMax})
	old := pick(d, []int{impl.OldMin, impl.OldMin, impl.OldMin + d.roll(107), impl.OldMax})
	return d.laidIn(own, m, young, old)
}

// eachVm visits machines in memories that are ok, so many of each unit that is passed.
func eachVm(seed int, units int, count int, visit func(h vmHand)) {
	d := &dice{state: uint64(seed)*104729 + 7}
	eachMach(seed, units, count, func(own machHand, m impl.Mach) {
		if h, room := d.laid(own, m); room {
			visit(h)
		}
	})
}

// eachHostVm visits machines in memories that are at an instruction, of each kind so many of so many units.
func eachHostVm(seed int, units int, count int, visit func(h vmHand)) {
	d := &dice{state: uint64(seed)*104729 + 9}
	for kind := impl.InsPush; kind <= impl.InsSay; kind++ {
		eachHostMach(seed+kind, kind, units, count, func(own machHand, m impl.Mach) {
			if h, room := d.laid(own, m); room {
				visit(h)
			}
		})
	}
}

// dropUnit makes things, for ever, and leads to none of them.
func dropUnit() impl.Unit {
	return inferred(oneMethod(0, ins(impl.InsNew, 3), ins(impl.InsPop), ins(impl.InsPush, 3), ins(impl.InsArr, 1), ins(impl.InsPop), ins(impl.InsGo, 0)))
}

// branchUnit makes things, for ever; local 0 is of class 2 behind the branch that is taken at first, a word behind the other, and of no type where they meet, from 9 on, and from 2 on again.
func branchUnit() impl.Unit {
	return inferred(oneMethod(2, ins(impl.InsPush, 0), ins(impl.InsStore, 1), ins(impl.InsNew, 2), ins(impl.InsStore, 0), ins(impl.InsLoad, 1), ins(impl.InsPush, 1), ins(impl.InsLess, 9),
		ins(impl.InsPush, 5), ins(impl.InsStore, 0), ins(impl.InsPush, 1), ins(impl.InsStore, 1), ins(impl.InsGo, 2)))
}

// pairUnit has a call that waits, with a thing on its stack, and one in a local, while the one above makes others, for ever.
func pairUnit() impl.Unit {
	first := withCode(plainMethod(-1, 0), ins(impl.InsNew, 2), ins(impl.InsStore, 0), ins(impl.InsNew, 3), ins(impl.InsLoad, 0), ins(impl.InsNew, 4), ins(impl.InsCall, 1),
		ins(impl.InsPop), ins(impl.InsPop), ins(impl.InsPop), ins(impl.InsPush, 1), ins(impl.InsBack))
	first.Locals = 1
	above := withOut(withCode(plainMethod(-1, 0, impl.TypeClass+4), ins(impl.InsNew, 2), ins(impl.InsPop), ins(impl.InsGo, 0)), impl.TypeClass)
	return inferred(impl.Unit{Classes: knownClasses(), Methods: []impl.Method{first, above}})
}

// leavingUnits leave things that are led to no more.
func leavingUnits() []impl.Unit {
	last := inferred(oneMethod(1, ins(impl.InsNew, 3), ins(impl.InsStore, 0), ins(impl.InsGo, 0)))
	return []impl.Unit{dropUnit(), branchUnit(), pairUnit(), last}
}

// vmsCounted is what there was among the machines that were visited.
type vmsCounted struct {
	calls                                        [impl.FrameMax + 1]int
	ends                                         [3]int
	loose, zeros, words, arrays, nulls, classes  int
	waiting, garbage, noYoung, youngFaults, both int
}

func (c *vmsCounted) add(h vmHand) {
	c.calls[len(h.m.Frames)]++
	c.ends[h.m.End]++
	for i, f := range h.m.Frames {
		s := h.all[f.Method][f.At]
		if i < len(h.m.Frames)-1 && len(f.Stack) > 0 {
			c.waiting++
		}
		list := slices.Concat(f.Locals, f.Stack)
		for k, t := range slices.Concat(s.Locals, s.Stack[:len(f.Stack)]) {
			c.addType(t, list[k])
		}
	}
	if len(h.rooted().live()) < len(h.mem.objs) {
		c.garbage++
	}
	young := 0
	for _, v := range h.faults {
		if v.N <= h.mem.inYoung {
			young++
		}
	}
	switch young {
	case 0:
		c.noYoung++
	case impl.FaultRoom:
		c.youngFaults++
	default:
		c.both++
	}
}

func (c *vmsCounted) addType(t int, v impl.Val) {
	switch {
	case t == impl.TypeNone:
		c.loose++
	case t == impl.TypeInt:
		c.words++
	case t == impl.TypeNull:
		c.nulls++
	case t == impl.TypeInts || t == impl.TypeRefs:
		c.arrays++
	default:
		c.classes++
	}
	if v == ref(0) && t > impl.TypeNull {
		c.zeros++
	}
}

func (c *vmsCounted) least() int {
	return min(slices.Min(c.calls[:]), slices.Min(c.ends[:]), c.loose, c.zeros, c.words, c.arrays, c.nulls, c.classes, c.waiting, c.garbage, c.noYoung, c.youngFaults, c.both)
}

// What the other tests go by is ok by the second account, too, which finds the same things in the words, and has enough of all.
func TestGrownVms(t *testing.T) {
	var count vmsCounted
	visit := func(h vmHand) {
		read, ok := vmHandOf(h.machHand, h.vm())
		if !ok {
			t.Fatalf("%v of %v is not ok", h.vm(), h.u)
		}
		if !equalVms(read.vm(), h.vm()) || !equalMachs(read.view(), h.view()) {
			t.Fatalf("%v is read as %v", h.vm(), read.vm())
		}
		count.add(h)
	}
	eachVm(1, 150, 20, visit)
	eachHostVm(1, 5, 10, visit)
	if count.least() < 50 {
		t.Errorf("too few of something: %+v", count)
	}
}
