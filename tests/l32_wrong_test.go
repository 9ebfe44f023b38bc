package tests

import (
	"math"
	"slices"
	"testing"

	"loop.example/entail/impl"
)

// mustNotRun asks for the one answer that VmRun has where there is no such run, be forced what it may.
func mustNotRun(t *testing.T, u impl.Unit, young int, old int, steps int) {
	t.Helper()
	for _, forced := range [][]int{nil, {}, {1, 2, 0}, slices.Repeat([]int{1}, impl.RunMax+1)} {
		if v := impl.VmRun(u, young, old, steps, forced); !isNoVm(v) {
			t.Fatalf("of %v VmRun in %d and %d by %d is %v", u, young, old, steps, v)
		}
	}
}

// Each way in which a unit is not ok, and those that are ok, but not passed.
func TestRunsOfUnitsThatAreNotPassed(t *testing.T) {
	count := 0
	for _, u := range slices.Concat(unitsThatAreNotOk(), stuckUnits(), []impl.Unit{{}, fullUnit()}) {
		if impl.UnitPass(u) {
			continue
		}
		count++
		for _, steps := range []int{0, 1, impl.RunMax} {
			mustNotRun(t, u, 6, 30, steps)
		}
	}
	for i := range callUnit().Methods {
		u := callUnit()
		u.Methods[i].Code = append(u.Methods[i].Code, ins(impl.InsPush))
		u.Methods[i].Shapes = append(u.Methods[i].Shapes, impl.Shape{})
		mustNotRun(t, u, 6, 30, 5)
	}
	if count < 50 {
		t.Error("too few", count)
	}
}

// farSteps are numbers of steps of which there are none.
func farSteps() []int {
	return []int{-1, -2, -200, impl.RunMax + 1, impl.RunMax + 2, 1000, 256, 255, 1 << 20, math.MinInt, math.MinInt + 1, math.MaxInt, math.MaxInt - 1, math.MinInt32, math.MaxInt32, 1 << 32, 1<<32 + 5}
}

func TestRunsOfStepsOfWhichThereAreNone(t *testing.T) {
	for _, u := range keepingUnits() {
		for _, steps := range farSteps() {
			mustNotRun(t, u, 6, 40, steps)
			mustNotRun(t, u, 0, 14, steps)
		}
		for _, steps := range []int{0, 1, impl.RunMax - 1, impl.RunMax} {
			if v := impl.VmRun(u, 6, 40, steps, nil); v.Steps != steps && v.End == impl.EndNot || isNoVm(v) {
				t.Errorf("by %d it is %v", steps, v)
			}
		}
	}
}

// Parts of all sizes, and such of which there are none.
func TestRunsInPartsOfWhichThereAreNone(t *testing.T) {
	u := ringUnit()
	is := 0
	for _, young := range append(allInts(), 13, 39, 40, 41, 42) {
		for _, old := range append(allInts(), 12, 13, 14, 15, 119, 120, 121) {
			if 0 <= young && young <= impl.YoungMax && impl.OldMin <= old && old <= impl.OldMax {
				v := impl.VmRun(u, young, old, 7, nil)
				if v.Steps != 7 && v.End == impl.EndNot || v.Mem.Young != young || len(v.Mem.Words) != young+old {
					t.Errorf("in %d and %d it is %v", young, old, v)
				}
				is++
				continue
			}
			for _, steps := range []int{0, 7, impl.RunMax} {
				mustNotRun(t, u, young, old, steps)
			}
		}
	}
	if is < 30 {
		t.Error("too few", is)
	}
}

// One thing that is wrong is enough, in a machine that would make a step.
func TestStepsOfVmsThatAreNotOk(t *testing.T) {
	u := makingUnit()
	good := vmMake{i: ins(impl.InsNew, 2), v: linkedVm(t, u), locals: []int{5, 5, 1}, stack: []int{5, 8}}.vm()
	if v := impl.VmStep(u, good); v.Steps != good.Steps+1 || len(v.Calls[0].Stack) != 3 {
		t.Fatal(v)
	}
	for _, known := range []struct {
		what   string
		change func(v *impl.Vm)
	}{
		{"no memory", func(v *impl.Vm) { v.Mem = impl.Mem{} }},
		{"a word that is not in use", func(v *impl.Vm) { v.Mem.Words[41] = 1 }},
		{"a young one that is not in use", func(v *impl.Vm) { v.Mem.Words[11] = 1 }},
		{"a card that is not set", func(v *impl.Vm) { v.Mem.Words[27] = 1 }},
		{"a card fewer", func(v *impl.Vm) { v.Mem.Cards = v.Mem.Cards[1:] }},
		{"another Top", func(v *impl.Vm) { v.Mem.Top-- }},
		{"another Young", func(v *impl.Vm) { v.Mem.Young -= 2 }},
		{"another Old", func(v *impl.Vm) { v.Mem.Old++; v.Mem.Words[31] = 9 }},
		{"no faults", func(v *impl.Vm) { v.Faults = nil }},
		{"one of the faults twice", func(v *impl.Vm) { v.Faults[6] = v.Faults[5] }},
		{"one of another class", func(v *impl.Vm) { v.Faults[2] = 4 }},
		{"no calls", func(v *impl.Vm) { v.Calls = nil }},
		{"a call twice", func(v *impl.Vm) { v.Calls = append(v.Calls, v.Calls[0]) }},
		{"a place at which nothing is told", func(v *impl.Vm) { v.Calls[0].At = 11 }},
		{"the end of the code", func(v *impl.Vm) { v.Calls[0].At = len(u.Methods[0].Code) }},
		{"no method", func(v *impl.Vm) { v.Calls[0].Method = 4 }},
		{"a local that leads nowhere", func(v *impl.Vm) { v.Calls[0].Locals[1] = 2 }},
		{"a local of another type", func(v *impl.Vm) { v.Calls[0].Locals[2] = 5 }},
		{"a local fewer", func(v *impl.Vm) { v.Calls[0].Locals = v.Calls[0].Locals[:2] }},
		{"on the stack what leads nowhere", func(v *impl.Vm) { v.Calls[0].Stack[0] = 12 }},
		{"on the stack another type", func(v *impl.Vm) { v.Calls[0].Stack[1] = 5 }},
		{"a stack that is too small", func(v *impl.Vm) { v.Calls[0].Stack = v.Calls[0].Stack[:1] }},
		{"a stack that is too large", func(v *impl.Vm) { v.Calls[0].Stack = append(v.Calls[0].Stack, 0) }},
		{"no word said", func(v *impl.Vm) { v.Said[0] = 128 }},
		{"too much said", func(v *impl.Vm) { v.Said = make([]int, impl.RunMax+1) }},
		{"too many steps", func(v *impl.Vm) { v.Steps = impl.RunMax + 1 }},
		{"steps below 0", func(v *impl.Vm) { v.Steps = -1 }},
		{"EndStuck", func(v *impl.Vm) { v.End = impl.EndStuck }},
		{"done, with calls", func(v *impl.Vm) { v.End = impl.EndDone }},
		{"done, with no word", func(v *impl.Vm) { v.Calls, v.End, v.Out = nil, impl.EndDone, 128 }},
		{"thrown, and nothing", func(v *impl.Vm) { v.Calls, v.End = nil, impl.EndThrown }},
		{"thrown, and of another class", func(v *impl.Vm) { v.Calls, v.End, v.Out = nil, impl.EndThrown, 5 }},
		{"Out ahead of the end", func(v *impl.Vm) { v.Out = 1 }},
	} {
		v := copyVm(good)
		known.change(&v)
		mustNotVm(t, known.what, u, v)
	}
	mustNotVm(t, "nothing", u, impl.Vm{})
	mustNotVm(t, "of no unit", impl.Unit{}, good)
}
