package tests

import (
	"slices"
	"testing"

	"loop.example/entail/impl"
)

// atSteps asks for what is told of a machine behind so many steps, without forced.
func atSteps(t *testing.T, u impl.Unit, young int, old int, steps int, short bool, said []int, calls ...impl.Call) impl.Vm {
	t.Helper()
	v := impl.VmRun(u, young, old, steps, nil)
	if v.Steps != steps || v.Short != short || !slices.Equal(v.Said, said) || !slices.EqualFunc(v.Calls, calls, equalCalls) {
		t.Errorf("behind %d steps it is %v, not %v, %t, %v", steps, v, calls, short, said)
	}
	return v
}

// P87, P94, P98: what is thrown by room that is short, caught in the same call: room is short from then on, also where there is some again.
func TestRoomThatIsShortInTheSameCall(t *testing.T) {
	u := untilShortUnit()
	atSteps(t, u, 0, 22, 14, false, nil, impl.Call{At: 2, Locals: []int{19}})
	atSteps(t, u, 0, 22, 15, true, nil, impl.Call{At: 8, Locals: []int{19}, Stack: []int{13}})
	atSteps(t, u, 0, 22, 16, true, nil, impl.Call{At: 9, Locals: []int{19}, Stack: []int{7}})
	atSteps(t, u, 0, 22, 17, true, []int{7}, impl.Call{At: 10, Locals: []int{19}})
	atSteps(t, u, 0, 22, 20, true, []int{7}, impl.Call{At: 2, Locals: []int{0}})
	v := atSteps(t, u, 0, 22, 21, true, []int{7}, impl.Call{At: 3, Locals: []int{0}, Stack: []int{15}})
	if v.Mem.Old != 18 {
		t.Error("what was left did not move", v)
	}
	atSteps(t, u, 0, 22, 33, true, []int{7}, impl.Call{At: 8, Locals: []int{19}, Stack: []int{13}})
	// A young part has room for one more, but not for two, as what waits for a place in it has none in the old one.
	atSteps(t, u, 4, 22, 15, false, nil, impl.Call{At: 3, Locals: []int{23}, Stack: []int{1}})
	atSteps(t, u, 4, 22, 21, true, nil, impl.Call{At: 8, Locals: []int{1}, Stack: []int{17}})
	if m := impl.MachRun(u, impl.RunMax); len(m.Said) > 0 {
		t.Error("with room for everything one says", m.Said)
	}
}

// P94: caught in the call that waits; what the call above had is gone with it.
func TestRoomThatIsShortInACallAbove(t *testing.T) {
	u := towerUnit()
	low := impl.Call{At: 2, Locals: []int{0}}
	atSteps(t, u, 0, 18, 6, false, nil, low, impl.Call{Method: 1, At: 2, Stack: []int{15, 15}}, impl.Call{Method: 1})
	atSteps(t, u, 0, 18, 7, true, nil, low, impl.Call{Method: 1, At: 5, Stack: []int{13}})
	atSteps(t, u, 0, 18, 9, true, nil, low, impl.Call{Method: 1, At: 7, Stack: []int{0}})
	atSteps(t, u, 0, 18, 10, true, nil, impl.Call{At: 3, Locals: []int{0}, Stack: []int{0}})
	atSteps(t, u, 0, 18, 13, true, []int{1}, impl.Call{At: 6, Locals: []int{0}})
	// As many calls as there may be: what is thrown of one more is not room that is short.
	atSteps(t, u, 0, 120, 12, false, nil, low, impl.Call{Method: 1, At: 2, Stack: []int{15, 15}}, impl.Call{Method: 1, At: 2, Stack: []int{19, 19}}, impl.Call{Method: 1, At: 5, Stack: []int{11}})
}

// P94: caught by none.
func TestRoomThatIsShortAtTheEnd(t *testing.T) {
	u := nestUnit()
	for _, known := range [][4]int{{0, 14, 2, 13}, {0, 15, 2, 13}, {0, 16, 5, 13}, {1, 14, 2, 14}, {2, 16, 5, 15}, {2, 19, 13, 15}, {40, 14, 101, 53}} {
		young, old, steps, room := known[0], known[1], known[2], known[3]
		v := impl.VmRun(u, young, old, impl.RunMax, nil)
		if v.Steps != steps || v.End != impl.EndThrown || v.Out != room || !v.Short || len(v.Calls) > 0 {
			t.Errorf("in %d and %d it is %v", young, old, v)
		}
		if ahead := impl.VmRun(u, young, old, steps-1, nil); ahead.Short || ahead.End != impl.EndNot {
			t.Errorf("in %d and %d it was %v", young, old, ahead)
		}
	}
}

// P93, P95: what is kept has 31 words, and what is made 4: those of the young part need not be there twice.
func TestTheLeastRoomForARing(t *testing.T) {
	u := ringUnit()
	want := impl.MachRun(u, impl.RunMax).Said
	for _, known := range []struct {
		young int
		old   int
		short bool
	}{{0, 35, false}, {0, 34, true}, {3, 35, false}, {3, 34, true}, {4, 31, false}, {4, 30, true}, {40, 31, false}, {40, 120, false}, {0, 120, false}} {
		v := impl.VmRun(u, known.young, known.old, impl.RunMax, nil)
		if v.Short != known.short || !v.Short && !slices.Equal(v.Said, want) {
			t.Errorf("in %v it is %v", known, v)
		}
	}
}

// P89: what is given back, and what is thrown at the end, is the same word by word.
func TestKnownEndsInMemories(t *testing.T) {
	for young := range 10 {
		v := impl.VmRun(markUnit(), young, 18, impl.RunMax, slices.Repeat([]int{1}, 40))
		if v.End != impl.EndDone || v.Out != 88 || v.Steps != 14 || v.Short || len(v.Calls) > 0 {
			t.Errorf("with %d it is %v", young, v)
		}
	}
	v := impl.VmRun(endUnit(), 4, 14, impl.RunMax, nil)
	want := impl.Vm{Mem: newVmByHand(endUnit(), 4, 14).Mem, Faults: []int{5, 7, 9, 11, 13, 15, 17}, Said: []int{9}, Steps: 9, End: impl.EndThrown, Out: 1}
	want.Mem.Top = 4
	copy(want.Mem.Words, []int{4, 9, 0, 0})
	if !equalVms(v, want) {
		t.Errorf("it is %v", v)
	}
}

// A local of no type stays as it was, also where it led to a thing that is gone, or is elsewhere; the next one is made where that was.
func TestKnownRunWithALocalOfNoType(t *testing.T) {
	u := branchUnit()
	atSteps(t, u, 3, 14, 7, false, nil, impl.Call{At: 9, Locals: []int{1, 0}})
	atSteps(t, u, 3, 14, 10, false, nil, impl.Call{At: 2, Locals: []int{1, 1}})
	atSteps(t, u, 3, 14, 11, false, nil, impl.Call{At: 3, Locals: []int{1, 1}, Stack: []int{1}})
	atSteps(t, u, 3, 14, 17, false, nil, impl.Call{At: 9, Locals: []int{5, 1}})
	atSteps(t, u, 3, 14, 20, false, nil, impl.Call{At: 2, Locals: []int{5, 1}})
	for _, kind := range []int{1, 2} {
		v := impl.VmRun(u, 3, 14, 8, slices.Concat(make([]int, 7), []int{kind}))
		if v.Mem.Top != 0 || v.Mem.Old != 17 || !slices.Equal(v.Calls[0].Locals, []int{1, 0}) {
			t.Errorf("behind %d it is %v", kind, v)
		}
		v = impl.VmRun(u, 3, 20, 5, slices.Concat(make([]int, 4), []int{kind}))
		if v.Mem.Top != 0 || v.Mem.Old != 20 || !slices.Equal(v.Calls[0].Locals, []int{18, 0}) {
			t.Errorf("behind %d it is %v", kind, v)
		}
	}
}

// forcedAt has one kind, ahead of one step.
func forcedAt(i int, kind int) []int {
	return append(make([]int, i), kind)
}

// P91: what is forced at the first step, at the last, in the middle, and past the last, of each kind, and of such that are none.
func TestForcedAtOneStep(t *testing.T) {
	d := &dice{state: 3221}
	other := 0
	for _, u := range inMemoryUnits(70, 20) {
		for range 2 {
			young, old := d.someParts()
			for _, steps := range []int{1, 1 + d.roll(impl.RunMax), impl.RunMax} {
				last := impl.VmRun(u, young, old, steps, nil)
				if last.Steps < steps {
					continue
				}
				for kind := -1; kind <= 3; kind++ {
					want := impl.VmStep(u, impl.VmForce(u, impl.VmRun(u, young, old, steps-1, nil), kind))
					if v := impl.VmRun(u, young, old, steps, forcedAt(steps-1, kind)); !equalVms(v, want) {
						t.Fatalf("in %v with %d ahead of step %d it is\n%v, not\n%v", u, kind, steps-1, v, want)
					}
					if !equalVms(want, last) {
						other++
					}
					if v := impl.VmRun(u, young, old, steps, forcedAt(steps, kind)); !equalVms(v, last) {
						t.Fatalf("in %v with %d past the last step it is\n%v, not\n%v", u, kind, v, last)
					}
				}
				if v := impl.VmRun(u, young, old, steps, []int{1}); !equalVms(v, last) {
					t.Fatalf("in %v what is forced at first moves something: %v", u, v)
				}
			}
		}
	}
	if other < 50 {
		t.Error("too few", other)
	}
}

// countingUnit counts down, and makes something each time, in as many steps as there may be, or in one more.
func countingUnit(more bool) impl.Unit {
	code := []impl.Ins{ins(impl.InsPush, 22), ins(impl.InsPush, 1), ins(impl.InsDo, impl.OpSub), ins(impl.InsDup), ins(impl.InsStore), ins(impl.InsNew, 3), ins(impl.InsPop),
		ins(impl.InsPush, 0), ins(impl.InsLoad), ins(impl.InsLess, 1)}
	if more {
		code = append(code, ins(impl.InsGo, len(code)+1))
	}
	return inferred(oneMethod(1, append(code, ins(impl.InsBack))...))
}

// P89, P92, P97: one that ends by the last step there may be, and one that would by one more.
func TestRunsOfRunMaxSteps(t *testing.T) {
	u := countingUnit(false)
	v := impl.VmRun(u, 10, 20, impl.RunMax, nil)
	if v.End != impl.EndDone || v.Out != 0 || v.Steps != impl.RunMax || v.Short || !equalVms(impl.VmStep(u, v), v) {
		t.Errorf("it is %v", v)
	}
	atSteps(t, u, 10, 20, impl.RunMax-1, false, nil, impl.Call{At: 10, Locals: []int{0}, Stack: []int{0}})
	u = countingUnit(true)
	v = atSteps(t, u, 10, 20, impl.RunMax, false, nil, impl.Call{At: 11, Locals: []int{0}, Stack: []int{0}})
	if !equalVms(impl.VmStep(u, v), v) || !equalMachs(impl.VmView(u, v), impl.MachView(u, impl.MachRun(u, impl.RunMax))) {
		t.Errorf("it does not stay: %v", v)
	}
	v.Steps--
	if v = impl.VmStep(u, v); v.End != impl.EndDone || v.Steps != impl.RunMax {
		t.Errorf("with a step fewer it is %v", v)
	}
}
