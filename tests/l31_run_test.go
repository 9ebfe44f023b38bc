package tests

import (
	"slices"
	"testing"

	"loop.example/entail/impl"
)

// runVms are passed, and run long enough to be seen at many places.
func runVms(seed int) []impl.Unit {
	var all []impl.Unit
	for _, u := range slices.Concat(leavingUnits(), knownUnits(), passedUnits(seed, 40)) {
		if handOf(u).unitPass() {
			all = append(all, u)
		}
	}
	d := &dice{state: uint64(seed)}
	for kind := impl.InsPush; kind <= impl.InsSay; kind++ {
		all = append(all, d.hostUnit(kind))
	}
	return all
}

func TestUnitsThatLeaveThings(t *testing.T) {
	for _, u := range leavingUnits() {
		mustUnitPass(t, "leaving things", u, true)
		m := impl.MachRun(u, impl.RunMax)
		if view := impl.MachView(u, m); m.End != impl.EndNot || len(m.Objs) < impl.FaultRoom+20 || len(view.Objs) > impl.FaultRoom+5 {
			t.Errorf("of %d things %d are led to: %v", len(m.Objs), len(view.Objs), m)
		}
	}
}

// P80, P82, P84: each machine of a run, in a memory of any parts, is seen as it is with room for everything; whether or not things are moved then, the next step is seen as the same.
func TestRunsInMemories(t *testing.T) {
	d := &dice{state: 131}
	var moved, stays [3]int
	noRoom := 0
	for _, u := range runVms(21) {
		h := machHandOf(u)
		all := h.runByHand()
		for i, m := range all {
			v, room := d.laid(h, m)
			if !room {
				noRoom++
				continue
			}
			view := mustViewAs(t, v, v.vm())
			if !equalMachs(view, impl.MachView(u, m)) {
				t.Fatalf("in %v\n%v is seen as\n%v, and\n%v as\n%v", u, v.vm(), view, m, impl.MachView(u, m))
			}
			next := impl.MachView(u, all[min(i+1, len(all)-1)])
			for kind := range 3 {
				behind, room := mustForceAs(t, v, v.vm(), kind)
				if room {
					moved[kind]++
				} else {
					stays[kind]++
				}
				if step := impl.MachView(u, impl.MachStep(u, impl.VmView(u, behind))); !equalMachs(step, next) {
					t.Fatalf("in %v a step behind VmForce %d of\n%v is seen as\n%v, not\n%v", u, kind, v.vm(), step, next)
				}
			}
		}
	}
	if moved[0] > 0 || slices.Min(moved[1:]) < 1000 || slices.Min(stays[:]) < 50 || noRoom == 0 {
		t.Error("too few of something", moved, stays, noRoom)
	}
}

// P84, P86: what a run leaves behind is not moved by VmForce of all, also where a local of no type once led there.
func TestRunsLeaveThingsBehind(t *testing.T) {
	d := &dice{state: 133}
	left := 0
	for _, u := range leavingUnits() {
		h := machHandOf(u)
		for _, m := range h.runByHand() {
			v, room := d.laid(h, m)
			if !room {
				continue
			}
			behind := impl.VmForce(u, v.vm(), 2)
			if count := len(impl.MachView(u, m).Objs); len(impl.MemWalk(u.Classes, behind.Mem)) != count && behind.Mem.Top == 0 {
				t.Fatalf("in %v of\n%v there is left\n%v, not %d things", u, m, behind, count)
			}
			if behind.Mem.Old < v.vm().Mem.Old {
				left++
			}
		}
	}
	if left < 50 {
		t.Error("too few", left)
	}
}
