package tests

import (
	"slices"
	"testing"

	"loop.example/entail/impl"
)

// mustViewAs is VmView by hand, and P80.
func mustViewAs(t *testing.T, h vmHand, v impl.Vm) impl.Mach {
	t.Helper()
	if !impl.VmOk(h.u, v) {
		t.Fatalf("in %v\n%v is not ok", h.u, v)
	}
	view := impl.VmView(h.u, v)
	if want := h.view(); !equalMachs(view, want) {
		t.Fatalf("in %v\n%v is seen as\n%v, not\n%v", h.u, v, view, want)
	}
	if !impl.MachFits(h.u, view) || !equalMachs(impl.MachView(h.u, view), view) {
		t.Fatalf("in %v\n%v is seen as\n%v, which does not fit, or is seen as another", h.u, v, view)
	}
	if !slices.Equal(view.Said, v.Said) || view.Steps != v.Steps || view.End != v.End || len(view.Frames) != len(v.Calls) {
		t.Fatalf("%v is seen as %v", v, view)
	}
	return view
}

// mustHaveRoots is VmRoots by hand, and P83.
func mustHaveRoots(t *testing.T, h vmHand, v impl.Vm, view impl.Mach) []int {
	t.Helper()
	roots := impl.VmRoots(h.u, v)
	if want := h.rooted().rootPlaces(); !slices.Equal(roots, want) {
		t.Fatalf("in %v\nroots of %v are %v, not %v", h.u, v, roots, want)
	}
	if len(roots) < impl.FaultRoom || !slices.Equal(roots[:impl.FaultRoom], v.Faults) {
		t.Fatalf("roots of %v are %v: those that are thrown do not come first", v, roots)
	}
	walk := impl.MemWalk(h.u.Classes, v.Mem)
	for _, at := range roots {
		if at != 0 && !slices.Contains(walk, at) {
			t.Fatalf("a root of %v leads to %d, where nothing begins", v, at)
		}
	}
	if live := impl.GcLive(h.u.Classes, v.Mem, roots); len(live) != len(view.Objs) {
		t.Fatalf("from the roots of %v one comes to %v, but seen are %v", v, live, view.Objs)
	}
	return roots
}

// mustForceAs is VmForce by hand, and P84 and P85; it says whether something was moved.
func mustForceAs(t *testing.T, h vmHand, v impl.Vm, kind int) (impl.Vm, bool) {
	t.Helper()
	behind := impl.VmForce(h.u, v, kind)
	next, room := h.forced(kind)
	if want := next.vm(); !equalVms(behind, want) {
		t.Fatalf("in %v\nVmForce %d of %v is\n%v, not\n%v", h.u, kind, v, behind, want)
	}
	if !impl.VmOk(h.u, behind) || !equalMachs(impl.VmView(h.u, behind), impl.VmView(h.u, v)) {
		t.Fatalf("in %v\n%v behind VmForce %d is seen as another: %v", h.u, v, kind, behind)
	}
	mustBeMovedBy(t, h.u, v, behind, kind)
	return behind, room
}

// mustBeMovedBy is P85, by what the program says of the roots alone.
func mustBeMovedBy(t *testing.T, u impl.Unit, v impl.Vm, behind impl.Vm, kind int) {
	t.Helper()
	roots, could := impl.VmRoots(u, v), false
	mem := v.Mem
	switch kind {
	case 1:
		mem, roots, could = impl.GcMinor(u.Classes, v.Mem, roots)
	case 2:
		mem, roots, could = impl.GcMajor(u.Classes, v.Mem, roots)
	}
	if !could {
		if !equalVms(behind, v) {
			t.Fatalf("VmForce %d of %v is %v, but nothing could be moved", kind, v, behind)
		}
		return
	}
	if !equalMems(behind.Mem, mem) || !slices.Equal(impl.VmRoots(u, behind), roots) {
		t.Fatalf("VmForce %d of %v is %v, but the memory is %v then, and the roots are %v", kind, v, behind, mem, roots)
	}
}

// mustForceAllAs is P86.
func mustForceAllAs(t *testing.T, h vmHand, v impl.Vm) bool {
	t.Helper()
	behind, room := mustForceAs(t, h, v, 2)
	if !room {
		return false
	}
	walk := impl.MemWalk(h.u.Classes, behind.Mem)
	if live := impl.GcLive(h.u.Classes, behind.Mem, impl.VmRoots(h.u, behind)); !slices.Equal(walk, live) {
		t.Fatalf("behind VmForce of all of %v things are at %v, but just %v are led to", v, walk, live)
	}
	if again := impl.VmForce(h.u, behind, 2); !equalVms(again, behind) {
		t.Fatalf("VmForce of all once more makes %v of %v", again, behind)
	}
	return true
}

// forcesCounted is how often there was room, and was not.
type forcesCounted struct {
	young, notYoung, all, notAll int
}

// hold asks all of a machine that is ok: P80, P83 to P86.
func (c *forcesCounted) hold(t *testing.T, h vmHand) {
	t.Helper()
	v := h.vm()
	mustHaveRoots(t, h, v, mustViewAs(t, h, v))
	if _, room := mustForceAs(t, h, v, 1); room {
		c.young++
	} else {
		c.notYoung++
	}
	if mustForceAllAs(t, h, v) {
		c.all++
	} else {
		c.notAll++
	}
	for _, kind := range []int{-1, 0, 3} {
		mustForceAs(t, h, v, kind)
	}
}

func (c *forcesCounted) mustBeMany(t *testing.T, least int) {
	t.Helper()
	if min(c.young, c.notYoung, c.all, c.notAll) < least {
		t.Errorf("too few of something: %+v", *c)
	}
}

// P80, P83 to P86
func TestSomeVms(t *testing.T) {
	var count forcesCounted
	eachVm(2, 120, 15, func(h vmHand) { count.hold(t, h) })
	eachHostVm(2, 3, 8, func(h vmHand) { count.hold(t, h) })
	count.mustBeMany(t, 100)
}

// P84, P85: what VmForce gave back is moved again, also by another kind, and stays as it is seen.
func TestVmsThatAreMovedAgain(t *testing.T) {
	d := &dice{state: 31}
	moved := 0
	eachVm(3, 40, 6, func(h vmHand) {
		first := impl.VmView(h.u, h.vm())
		for range 5 {
			kind := pick(d, []int{1, 1, 2, 0})
			next, room := h.forced(kind)
			behind, _ := mustForceAs(t, h, h.vm(), kind)
			if view := impl.VmView(h.u, behind); !equalMachs(view, first) {
				t.Fatalf("it was seen as %v, and is now as %v", first, view)
			}
			if room {
				moved++
			}
			h = next
		}
	})
	if moved < 300 {
		t.Error("too few", moved)
	}
}

// P85: of each kind that is none the machine stays, be there something to move or not.
func TestVmForceOfKindsThatAreNone(t *testing.T) {
	eachVm(4, 10, 3, func(h vmHand) {
		v := h.vm()
		for _, kind := range allInts() {
			if kind == 1 || kind == 2 {
				continue
			}
			if behind := impl.VmForce(h.u, v, kind); !equalVms(behind, v) {
				t.Fatalf("VmForce %d of %v is %v", kind, v, behind)
			}
		}
	})
}

// newVmByHand is VmNew of a unit that is passed, word by word.
func newVmByHand(u impl.Unit, young int, old int) impl.Vm {
	v := impl.Vm{Mem: impl.Mem{Words: make([]int, young+old), Young: young, Old: young + 14, Cards: make([]bool, memCards(old))}}
	for i := range 7 {
		v.Mem.Words[young+2*i], v.Mem.Words[young+2*i+1] = 1, i+1
		v.Faults = append(v.Faults, young+2*i+1)
	}
	v.Calls = []impl.Call{{Locals: make([]int, u.Methods[0].Locals)}}
	return v
}

// mustVmBegin is P79.
func mustVmBegin(t *testing.T, h machHand, young int, old int) {
	t.Helper()
	v := impl.VmNew(h.u, young, old)
	if !h.passed || young < 0 || young > 40 || old < 14 || old > 120 {
		if !isNoVm(v) {
			t.Fatalf("VmNew of %v in %d and %d is %v", h.u, young, old, v)
		}
		return
	}
	if want := newVmByHand(h.u, young, old); !equalVms(v, want) {
		t.Fatalf("VmNew of %v in %d and %d is\n%v, not\n%v", h.u, young, old, v, want)
	}
	if !impl.VmOk(h.u, v) || !equalMachs(impl.VmView(h.u, v), impl.MachNew(h.u)) {
		t.Fatalf("%v is not ok, or is seen as %v", v, impl.VmView(h.u, v))
	}
	if roots := impl.VmRoots(h.u, v); !slices.Equal(roots, v.Faults) {
		t.Fatalf("roots of %v are %v", v, roots)
	}
}

// P79
func TestNewVms(t *testing.T) {
	for _, u := range slices.Concat(knownUnits(), stuckUnits(), someUnits(), passedUnits(5, 60), grownUnits(6, 60)) {
		h := machHandOf(u)
		for _, parts := range [][2]int{{0, 14}, {0, 120}, {40, 14}, {40, 120}, {3, 15}, {13, 57}, {-1, 14}, {41, 14}, {0, 13}, {40, 121}} {
			mustVmBegin(t, h, parts[0], parts[1])
		}
	}
}

// P79: parts of all sizes, and such that are none.
func TestNewVmsOfAllParts(t *testing.T) {
	h := machHandOf(callUnit())
	for _, young := range append(allInts(), 27, 28, 39, 40, 41, 42) {
		for _, old := range append(allInts(), 27, 60, 61, 62, 63, 119, 120, 121) {
			mustVmBegin(t, h, young, old)
		}
	}
}

// P79: as many locals as there can be, and none; all are 0, and of no type.
func TestNewVmsWithLocals(t *testing.T) {
	for locals := range impl.LocalMax + 1 {
		mustVmBegin(t, machHandOf(oneMethod(locals, ins(impl.InsPush, 1), ins(impl.InsBack))), 5, 20)
		mustVmBegin(t, machHandOf(oneMethod(locals, ins(impl.InsBack))), 5, 20)
	}
}

// Behind VmNew nothing moves, as all is old, and in order; it is ok with any kind.
func TestNewVmsStay(t *testing.T) {
	for _, parts := range [][2]int{{0, 14}, {40, 120}, {7, 14}} {
		v := impl.VmNew(listUnit(), parts[0], parts[1])
		for _, kind := range []int{0, 1, 2, 3} {
			if behind := impl.VmForce(listUnit(), v, kind); !equalVms(behind, v) {
				t.Errorf("VmForce %d of %v is %v", kind, v, behind)
			}
		}
	}
}
