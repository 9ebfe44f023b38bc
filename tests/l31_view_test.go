package tests

import (
	"slices"
	"testing"

	"loop.example/entail/impl"
)

// mustMachViewAs is MachView by hand, and P81.
func mustMachViewAs(t *testing.T, h machHand, m impl.Mach) impl.Mach {
	t.Helper()
	view := impl.MachView(h.u, m)
	if want := h.machViewByHand(m); !equalMachs(view, want) {
		t.Fatalf("in %v MachView of\n%v is\n%v, not\n%v", h.u, m, view, want)
	}
	if !impl.MachFits(h.u, m) {
		if !equalMachs(view, impl.Mach{}) {
			t.Fatalf("in %v MachView of %v, which does not fit, is %v", h.u, m, view)
		}
		return view
	}
	if !impl.MachFits(h.u, view) || len(view.Objs) > len(m.Objs) || !equalMachs(impl.MachView(h.u, view), view) {
		t.Fatalf("in %v MachView of\n%v is\n%v, of which it is\n%v", h.u, m, view, impl.MachView(h.u, view))
	}
	return view
}

// P81
func TestMachViews(t *testing.T) {
	fewer, same := 0, 0
	visit := func(h machHand, m impl.Mach) {
		if view := mustMachViewAs(t, h, m); len(view.Objs) < len(m.Objs) {
			fewer++
		} else {
			same++
		}
	}
	eachMach(11, 150, 15, visit)
	for kind := impl.InsPush; kind <= impl.InsSay; kind++ {
		eachHostMach(11+kind, kind, 5, 8, visit)
	}
	if fewer < 500 || same < 200 {
		t.Error("too few of either", fewer, same)
	}
}

// mustStepAlike is P82. A machine whose things are as many as there may be makes no step, and one with fewer does: no run has so many ahead of its last step.
func mustStepAlike(t *testing.T, h machHand, m impl.Mach) {
	t.Helper()
	if len(m.Objs) == impl.FaultRoom+impl.RunMax {
		return
	}
	all := impl.MachView(h.u, impl.MachStep(h.u, m))
	led := impl.MachView(h.u, impl.MachStep(h.u, impl.MachView(h.u, m)))
	if !equalMachs(all, led) {
		t.Fatalf("in %v behind a step of\n%v one sees\n%v, but with just what is led to\n%v", h.u, m, all, led)
	}
}

// P82
func TestStepsOfMachViews(t *testing.T) {
	steps := 0
	visit := func(h machHand, m impl.Mach) {
		mustStepAlike(t, h, m)
		if !isFull(m) {
			steps++
		}
	}
	eachMach(12, 150, 15, visit)
	for kind := impl.InsPush; kind <= impl.InsSay; kind++ {
		eachHostMach(12+kind, kind, 8, 10, visit)
	}
	if steps < 2000 {
		t.Error("too few", steps)
	}
}

// P81, P82: all machines of some runs; from step to step just what is led to is taken on.
func TestRunsOfMachViews(t *testing.T) {
	fewer := 0
	for _, u := range append(runUnits(13, 60), leavingUnits()...) {
		h := machHandOf(u)
		if !h.passed {
			continue
		}
		led := impl.MachView(u, impl.MachNew(u))
		for _, m := range h.runByHand() {
			view := mustMachViewAs(t, h, m)
			if !equalMachs(view, led) {
				t.Fatalf("in %v\n%v is seen as\n%v, but with just what is led to from step to step\n%v", u, m, view, led)
			}
			if len(view.Objs) < len(m.Objs) {
				fewer++
			}
			led = impl.MachView(u, impl.MachStep(u, led))
		}
	}
	if fewer < 500 {
		t.Error("too few", fewer)
	}
}

// P81, P82: a thing more to which nothing leads, one that leads to itself, and a circle, behind all others or ahead of some, change nothing.
func TestMachViewsOfThingsMore(t *testing.T) {
	d := &dice{state: 17}
	eachMach(14, 60, 8, func(h machHand, m impl.Mach) {
		want := mustMachViewAs(t, h, m)
		for _, count := range []int{1, 2, 3} {
			more := withCircle(m, impl.FaultRoom+d.roll(len(m.Objs)-impl.FaultRoom+1), count)
			if view := mustMachViewAs(t, h, more); !equalMachs(view, want) {
				t.Fatalf("MachView of\n%v is\n%v, and of\n%v\n%v", m, want, more, view)
			}
			mustStepAlike(t, h, more)
		}
	})
}

// asHeap is the things of a machine, and all its other values, as roots.
func asHeap(m impl.Mach) heap {
	out := heap{objs: m.Objs}
	for _, v := range spots(&m) {
		out.roots = append(out.roots, *v)
	}
	return out
}

// withHeap is the machine with other things, to which it leads by the roots.
func withHeap(m impl.Mach, h heap) impl.Mach {
	m = copyMach(m)
	m.Objs = h.objs
	for i, v := range spots(&m) {
		*v = h.roots[i]
	}
	return m
}

// withCircle has so many arrays more at a place, which lead to each other in a circle, and to one that is thrown, and to which nothing else leads.
func withCircle(m impl.Mach, at int, count int) impl.Mach {
	out := asHeap(m)
	for range count {
		out = withThing(out, at, thing(impl.ClassRefs, ref(0), ref(7)))
	}
	for i := range count {
		out.objs[at+i].Vals[0] = ref(at + 1 + (i+1)%count)
	}
	return withHeap(m, out)
}

// P81: what stands behind those that are thrown may stand in any order.
func TestMachViewsInAnyOrder(t *testing.T) {
	d := &dice{state: 19}
	eachMach(15, 80, 8, func(h machHand, m impl.Mach) {
		want := mustMachViewAs(t, h, m)
		order := []int{0, 1, 2, 3, 4, 5, 6}
		for _, i := range d.someOrder(len(m.Objs) - impl.FaultRoom) {
			order = append(order, impl.FaultRoom+i)
		}
		other := withHeap(m, inOrder(asHeap(m), order))
		if view := mustMachViewAs(t, h, other); !equalMachs(view, want) {
			t.Fatalf("MachView of\n%v is\n%v, and of\n%v\n%v", m, want, other, view)
		}
	})
}

// P81: each number of a machine changed, so that it fits, or does not: then it is nothing.
func TestMachViewsWithOneNumberChanged(t *testing.T) {
	fits, not := 0, 0
	eachMach(16, 25, 3, func(h machHand, m impl.Mach) {
		for _, n := range numbersOf(&m) {
			was := *n
			for _, *n = range append(farInts(), -129, -2, -1, 0, 1, 2, 3, 7, 8, 9, 128, 200, 201) {
				if view := mustMachViewAs(t, h, m); len(view.Objs) > 0 {
					fits++
				} else {
					not++
				}
			}
			*n = was
		}
	})
	if fits < 1000 || not < 1000 {
		t.Error("too few of either", fits, not)
	}
}

// Units that are not ok, or not passed, and machines of nothing: nothing.
func TestNoMachViews(t *testing.T) {
	machs := []impl.Mach{{}, newByHand(callUnit()), chain(4), {Objs: firstThings(), End: impl.EndDone}, {Objs: firstThings(), End: impl.EndThrown, Out: ref(1)}}
	for _, u := range slices.Concat(unitsThatAreNotOk(), stuckUnits(), []impl.Unit{{}, fullUnit()}) {
		for _, m := range machs {
			if view := impl.MachView(u, m); !equalMachs(view, impl.Mach{}) {
				t.Fatalf("in %v MachView of %v is %v", u, m, view)
			}
		}
	}
	for end := range 5 {
		for _, m := range machs {
			m.End = end
			mustMachViewAs(t, machHandOf(callUnit()), m)
		}
	}
}
