package tests

import (
	"math"
	"slices"
	"testing"

	"loop.example/entail/impl"
)

// mustNotVm asks for the one answer that all functions have where a machine is not ok.
func mustNotVm(t *testing.T, what string, u impl.Unit, v impl.Vm) {
	t.Helper()
	if impl.VmOk(u, v) {
		t.Fatalf("%s: in %v\n%v is ok", what, u, v)
	}
	if roots := impl.VmRoots(u, v); len(roots) != 0 {
		t.Fatalf("%s: roots of %v are %v", what, v, roots)
	}
	if view := impl.VmView(u, v); !equalMachs(view, impl.Mach{}) {
		t.Fatalf("%s: %v is seen as %v", what, v, view)
	}
	for _, kind := range []int{0, 1, 2, 3} {
		if behind := impl.VmForce(u, v, kind); !isNoVm(behind) {
			t.Fatalf("%s: VmForce %d of %v is %v", what, kind, v, behind)
		}
	}
	if behind := impl.VmStep(u, v); !isNoVm(behind) {
		t.Fatalf("%s: a step behind %v it is %v", what, v, behind)
	}
}

// mustVmAsByHand says whether a machine is ok, and asks all of it.
func mustVmAsByHand(t *testing.T, own machHand, v impl.Vm) bool {
	t.Helper()
	h, ok := vmHandOf(own, v)
	if !ok {
		mustNotVm(t, "by hand", own.u, v)
		return false
	}
	mustHaveRoots(t, h, v, mustViewAs(t, h, v))
	for kind := range 3 {
		mustForceAs(t, h, v, kind)
	}
	mustVmStepAs(t, h)
	return true
}

// numbersOfVm are where all numbers of a machine stand.
func numbersOfVm(v *impl.Vm) []*int {
	all := append(numbersOfMem(&v.Mem), &v.Steps, &v.End, &v.Out)
	add := func(list []int) {
		for i := range list {
			all = append(all, &list[i])
		}
	}
	add(v.Faults)
	add(v.Said)
	for i, c := range v.Calls {
		all = append(all, &v.Calls[i].Method, &v.Calls[i].At)
		add(c.Locals)
		add(c.Stack)
	}
	return all
}

// Machines that are ok, with one number changed, near and far.
func TestVmsWithOneNumberChanged(t *testing.T) {
	ok, not := 0, 0
	d := &dice{state: 51}
	eachVm(51, 14, 2, func(h vmHand) {
		v := h.vm()
		if len(v.Mem.Words) > 60 {
			return
		}
		for _, n := range numbersOfVm(&v) {
			was := *n
			for _, *n = range []int{-129, -128, -3, -2, -1, 0, 1, 2, 3, 4, 5, 12, was - 1, was + 1, pick(d, v.Faults), pick(d, h.mem.places()), v.Mem.Old, len(v.Mem.Words) + 1, 127, 128, 200, 201, pick(d, farInts()), math.MinInt, math.MaxInt} {
				if mustVmAsByHand(t, h.machHand, v) {
					ok++
				} else {
					not++
				}
			}
			*n = was
		}
	})
	if ok < 3000 || not < 3000 {
		t.Error("too few of either", ok, not)
	}
}

// All that a call and Out can lead to: each place of the memory, and those around it, wherever such a number stands.
func TestVmsWithOneNumberOfEachPlace(t *testing.T) {
	ok, not := 0, 0
	eachVm(52, 20, 3, func(h vmHand) {
		v := h.vm()
		if len(v.Mem.Words) > 90 {
			return
		}
		for _, n := range numbersOfVm(&v)[3+len(v.Mem.Words):] {
			was := *n
			for *n = -1; *n <= len(v.Mem.Words)+1; *n++ {
				_, is := vmHandOf(h.machHand, v)
				if impl.VmOk(h.u, v) != is {
					t.Fatalf("in %v\n%v is ok: %t", h.u, v, !is)
				}
				if is {
					ok++
				} else {
					not++
				}
			}
			*n = was
		}
	})
	if ok < 3000 || not < 3000 {
		t.Error("too few of either", ok, not)
	}
}

// tryVmSizes leaves the list as it was.
func tryVmSizes[T any](t *testing.T, own machHand, v *impl.Vm, list *[]T) {
	t.Helper()
	was := *list
	for _, *list = range otherSizes(was) {
		mustVmAsByHand(t, own, *v)
	}
	*list = was
}

// Machines with one list that is longer or shorter.
func TestVmsWithOneListChanged(t *testing.T) {
	visit := func(h vmHand) {
		v := h.vm()
		tryVmSizes(t, h.machHand, &v, &v.Mem.Words)
		tryVmSizes(t, h.machHand, &v, &v.Mem.Cards)
		tryVmSizes(t, h.machHand, &v, &v.Calls)
		tryVmSizes(t, h.machHand, &v, &v.Faults)
		tryVmSizes(t, h.machHand, &v, &v.Said)
		for i := range v.Calls {
			tryVmSizes(t, h.machHand, &v, &v.Calls[i].Locals)
			tryVmSizes(t, h.machHand, &v, &v.Calls[i].Stack)
		}
	}
	eachVm(53, 80, 4, visit)
	eachHostVm(53, 1, 4, visit)
}

// A machine of one unit in another one, passed or not.
func TestVmsOfOtherUnits(t *testing.T) {
	var hands []machHand
	for _, u := range slices.Concat(someUnits(), stuckUnits(), passedUnits(54, 30), grownUnits(55, 20), knownUnits()) {
		hands = append(hands, machHandOf(u))
	}
	ok := 0
	eachVm(54, 25, 3, func(h vmHand) {
		for _, own := range hands {
			if mustVmAsByHand(t, own, h.vm()) {
				ok++
			}
		}
	})
	if ok < 100 {
		t.Error("too few", ok)
	}
}

// vmsToTry are nothing, and such that would be ok with a unit that is.
func vmsToTry() []impl.Vm {
	v := newVmByHand(callUnit(), 6, 30)
	done, thrown := copyVm(v), copyVm(v)
	done.Calls, done.End = nil, impl.EndDone
	thrown.Calls, thrown.End, thrown.Out = nil, impl.EndThrown, 7
	return []impl.Vm{{}, v, done, thrown, {Mem: v.Mem}, {Mem: impl.MemNew(0, 14), End: impl.EndDone}, {Mem: v.Mem, Faults: v.Faults}, {Calls: v.Calls, Faults: v.Faults}, {Calls: make([]impl.Call, 1), Faults: make([]int, 7)}}
}

func TestVmsOfUnitsThatAreNotOk(t *testing.T) {
	for _, u := range slices.Concat(unitsThatAreNotOk(), stuckUnits(), []impl.Unit{{}, fullUnit()}) {
		for _, v := range vmsToTry() {
			mustNotVm(t, "the unit is not passed", u, v)
		}
		if v := impl.VmNew(u, 6, 30); !isNoVm(v) {
			t.Fatalf("VmNew of %v is %v", u, v)
		}
	}
	for i, v := range vmsToTry() {
		if mustVmAsByHand(t, machHandOf(callUnit()), v) != (1 <= i && i <= 3) {
			t.Errorf("%v is ok, or not", v)
		}
	}
}

// Each method of a unit must be passed, also one that is not called.
func TestVmsOfUnitsWithAMethodThatIsNotPassed(t *testing.T) {
	for i := range 4 {
		u := callUnit()
		v := newVmByHand(u, 6, 30)
		u.Methods[i].Code = append(u.Methods[i].Code, ins(impl.InsPush))
		u.Methods[i].Shapes = append(u.Methods[i].Shapes, impl.Shape{})
		mustNotVm(t, "a method is not passed", u, v)
		mustVmBegin(t, machHandOf(u), 6, 30)
	}
}

func TestVmsInMemoriesThatAreNotOk(t *testing.T) {
	u := callUnit()
	for _, m := range spoiltMems() {
		for _, v := range vmsToTry() {
			v.Mem = m
			mustNotVm(t, "the memory is not ok", u, v)
		}
	}
	v := newVmByHand(u, 6, 30)
	for _, known := range []struct {
		what   string
		change func(m *impl.Mem)
	}{
		{"a word that is not in use", func(m *impl.Mem) { m.Words[0] = 1 }},
		{"an old one that is not in use", func(m *impl.Mem) { m.Words[35] = -1 }},
		{"less is in use", func(m *impl.Mem) { m.Old-- }},
		{"more is in use than there is", func(m *impl.Mem) { m.Old = 37 }},
		{"no word", func(m *impl.Mem) { m.Words[7] = 128 }},
		{"no class", func(m *impl.Mem) { m.Words[6] = 5 }},
		{"a card fewer", func(m *impl.Mem) { m.Cards = m.Cards[1:] }},
		{"a card more", func(m *impl.Mem) { m.Cards = append(m.Cards, false) }},
	} {
		spoilt := copyVm(v)
		known.change(&spoilt.Mem)
		mustNotVm(t, known.what, u, spoilt)
	}
	v.Mem, _ = impl.MemMake(u.Classes, v.Mem, impl.ClassRefs, 1, true)
	v.Mem, _ = impl.MemMake(u.Classes, v.Mem, 0, 0, false)
	v = putVm(t, u, v, 21, 0, 1)
	if !mustVmAsByHand(t, machHandOf(u), v) {
		t.Error("its card is set", v)
	}
	v.Mem.Cards = make([]bool, 8)
	mustNotVm(t, "a card that is not set", u, v)
}

func TestFaultsThatAreNotSo(t *testing.T) {
	u := branchUnit()
	v := parted(t, u)
	at := 0
	v.Mem, at = impl.MemMake(u.Classes, v.Mem, 4, 0, true)
	v.Mem, _ = impl.MemMake(u.Classes, v.Mem, 1, 0, true)
	if at != 32 || !mustVmAsByHand(t, machHandOf(u), v) {
		t.Fatal(at, v)
	}
	good := slices.Clone(v.Faults)
	v.Faults[3] = 36
	if !mustVmAsByHand(t, machHandOf(u), v) {
		t.Error("another one of the class", v)
	}
	for i := range good {
		for _, wrong := range append(farPlaces(), 0, 1, 2, 4, 5, 8, 12, 14, 26, 27, 28, 30, 31, 32, 33, 37, 38, 42, 43) {
			v.Faults = slices.Clone(good)
			v.Faults[i] = wrong
			mustNotVm(t, "no thing of that class", u, v)
		}
		for k := range good {
			if v.Faults[i] = good[k]; i != k {
				mustNotVm(t, "one place twice", u, v)
			}
		}
		v.Faults = slices.Delete(slices.Clone(good), i, i+1)
		mustNotVm(t, "too few", u, v)
		v.Faults = slices.Insert(slices.Clone(good), i, 36)
		mustNotVm(t, "too many", u, v)
	}
	for _, v.Faults = range [][]int{nil, {}, good[:1], slices.Concat(good, good), slices.Repeat(good[:1], 7)} {
		mustNotVm(t, "other places", u, v)
	}
}

func TestCallsThatAreNotSo(t *testing.T) {
	u := placeUnit([]int{impl.TypeNone, impl.TypeInt, impl.TypeInts}, impl.TypeClass+2, impl.TypeInt)
	own := machHandOf(u)
	good := at2(parted(t, u), []int{-1, 3, 30}, 27, 4)
	if !mustVmAsByHand(t, own, good) {
		t.Fatal(good)
	}
	for _, known := range []struct {
		what   string
		change func(c *impl.Call)
	}{
		{"a local fewer", func(c *impl.Call) { c.Locals = c.Locals[:2] }},
		{"a local more", func(c *impl.Call) { c.Locals = append(c.Locals, 0) }},
		{"no locals", func(c *impl.Call) { c.Locals = nil }},
		{"less on the stack", func(c *impl.Call) { c.Stack = c.Stack[:1] }},
		{"nothing on the stack", func(c *impl.Call) { c.Stack = nil }},
		{"more on the stack", func(c *impl.Call) { c.Stack = append(c.Stack, 0) }},
		{"many more on the stack", func(c *impl.Call) { c.Stack = make([]int, 100) }},
		{"at the end of the code", func(c *impl.Call) { c.At = 6 }},
		{"another type of array", func(c *impl.Call) { c.Locals[2] = 8 }},
		{"no array", func(c *impl.Call) { c.Locals[2] = 4 }},
		{"the class above", func(c *impl.Call) { c.Stack[0] = 4 }},
		{"in the middle of a thing", func(c *impl.Call) { c.Stack[0] = 28 }},
		{"a word that is none", func(c *impl.Call) { c.Stack[1] = 128 }},
		{"a local that is no word", func(c *impl.Call) { c.Locals[1] = -129 }},
		{"a word where a thing is told", func(c *impl.Call) { c.Locals[2] = -1 }},
	} {
		v := copyVm(good)
		known.change(&v.Calls[0])
		mustNotVm(t, known.what, u, v)
	}
	for _, n := range append(allInts(), 6) {
		v := copyVm(good)
		v.Calls[0].Method = n
		if n != 0 {
			mustNotVm(t, "no method", u, v)
		}
		v = copyVm(good)
		v.Calls[0].At = n
		if n != 2 {
			mustNotVm(t, "another place", u, v)
		}
	}
	for count := range 8 {
		v := copyVm(good)
		v.Calls = slices.Repeat(v.Calls, count)
		if count != 1 {
			mustNotVm(t, "calls that do not wait, or none", u, v)
		}
	}
}

func TestEndsThatAreNotSo(t *testing.T) {
	u := placeUnit([]int{impl.TypeClass})
	good := at2(parted(t, u), []int{4})
	own := machHandOf(u)
	ok := 0
	for _, end := range allInts() {
		for _, out := range append(allInts(), 13, 14, 15, 27, 30, 32, 42, 43, 44) {
			for _, calls := range [][]impl.Call{nil, good.Calls} {
				v := copyVm(good)
				v.Calls, v.End, v.Out = calls, end, out
				is := end == 0 && calls != nil && out == 0 || end == 1 && calls == nil && out >= -128 && out <= 127 || end == 2 && calls == nil && out >= 13 && out <= 25 && out%2 == 1
				if mustVmAsByHand(t, own, v) != is {
					t.Fatalf("%v is ok: %t", v, !is)
				}
				if is {
					ok++
				}
			}
		}
	}
	if ok < 40 {
		t.Error("too few", ok)
	}
}

func TestNumbersOfVmsThatAreNotSo(t *testing.T) {
	u := callUnit()
	good := newVmByHand(u, 6, 30)
	own := machHandOf(u)
	for _, n := range append(allInts(), 199, 200, 201) {
		v := copyVm(good)
		v.Steps = n
		if mustVmAsByHand(t, own, v) != (0 <= n && n <= impl.RunMax) {
			t.Fatal(v)
		}
		for _, count := range []int{1, 199, 200, 201, 202} {
			v = copyVm(good)
			v.Said = slices.Repeat([]int{n}, count)
			if mustVmAsByHand(t, own, v) != (-128 <= n && n <= 127 && count <= 200) {
				t.Fatal(v)
			}
		}
	}
	good.Short = true
	if !mustVmAsByHand(t, own, good) {
		t.Error("room was short")
	}
}
