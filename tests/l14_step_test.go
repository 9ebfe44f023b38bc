package tests

import (
	"math"
	"slices"
	"testing"

	"loop.example/entail/impl"
)

// isFull says whether a machine makes no step any more.
func isFull(m impl.Mach) bool {
	return m.End != impl.EndNot || m.Steps == 200 || len(m.Said) == 200 || len(m.Objs) == 207
}

// mustKeepThings is P46.
func mustKeepThings(t *testing.T, m impl.Mach, behind impl.Mach) {
	t.Helper()
	more := len(behind.Objs) - len(m.Objs)
	if more < 0 || more > 1 {
		t.Fatalf("of %v there are %d things more in %v", m, more, behind)
	}
	for i, o := range m.Objs {
		if now := behind.Objs[i]; now.Class != o.Class || len(now.Vals) != len(o.Vals) {
			t.Fatalf("the thing %v is %v behind %v", o, now, m)
		}
	}
}

// mustMove is P40, P46 and P48.
func mustMove(t *testing.T, u impl.Unit, m impl.Mach, behind impl.Mach) {
	t.Helper()
	if isFull(m) {
		if !equalMachs(behind, m) {
			t.Fatalf("%v does not stay, it is %v", m, behind)
		}
		return
	}
	if behind.Steps != m.Steps+1 || !impl.MachOk(u, behind) {
		t.Fatalf("in %v behind %v it is %v", u, m, behind)
	}
	if len(behind.Said) < len(m.Said) || !slices.Equal(behind.Said[:len(m.Said)], m.Said) {
		t.Fatalf("%v was said, then %v", m.Said, behind.Said)
	}
	mustKeepThings(t, m, behind)
	if behind.End != impl.EndStuck {
		return
	}
	stuck := copyMach(m)
	stuck.Steps, stuck.End = m.Steps+1, impl.EndStuck
	if !equalMachs(behind, stuck) {
		t.Fatalf("stuck behind %v it is %v", m, behind)
	}
}

// mustStepAsByHand is of a machine that is ok; it is P40, P46 and P48, too.
func mustStepAsByHand(t *testing.T, h hand, m impl.Mach) impl.Mach {
	t.Helper()
	want := h.stepByHand(m)
	mustStepTo(t, "by hand", h.u, m, want)
	mustMove(t, h.u, m, want)
	return want
}

// P40, P46, P48: all instructions, each with all stacks of few values, as the only call, and with all calls.
func TestSmallStepsByHand(t *testing.T) {
	stacks := everyVals(vals(word(0), word(2), ref(0), ref(8), ref(9), ref(13), ref(14)), 3)
	var ends [4]int
	u := edgeUnit(ins(impl.InsPop))
	for _, list := range instructionList(u, u.Methods[0]) {
		for _, i := range list {
			h := handOf(edgeUnit(i))
			for k, stack := range stacks {
				m := edgeMach(stack...)
				if k%2 == 1 {
					m = withCalls(m, impl.FrameMax)
				}
				ends[mustStepAsByHand(t, h, m).End]++
			}
		}
	}
	if slices.Min(ends[:]) < 100 {
		t.Error("too few of something", ends)
	}
}

// P40, P46, P48: machines that fit, and these with one value changed.
func TestGrownStepsByHand(t *testing.T) {
	var ends [4]int
	stays := 0
	eachMach(20, 150, 6, func(h machHand, m impl.Mach) {
		mustStepAsByHand(t, h.hand, m)
		for _, v := range machValues(&m) {
			was := *v
			for _, *v = range []impl.Val{word(0), word(1), ref(0), ref(1), ref(len(m.Objs)), ref(max(1, len(m.Objs)-1))} {
				if isFull(m) {
					stays++
				}
				ends[mustStepAsByHand(t, h.hand, m).End]++
			}
			*v = was
		}
	})
	if slices.Min(ends[:]) < 100 || stays < 100 {
		t.Error("too few of something", ends, stays)
	}
}

func (d *dice) someLooseVals(things int, count int) []impl.Val {
	var all []impl.Val
	for range count {
		all = append(all, d.someVal(things))
	}
	return all
}

// someLooseMach is ok, but its values are of any types, and its calls stand at any places.
func (d *dice) someLooseMach(u impl.Unit) impl.Mach {
	m := machOf(nil)
	size := impl.FaultRoom + d.roll(8)
	for len(m.Objs) < size {
		class := d.roll(len(u.Classes)+2) - 2
		count := d.roll(impl.ArrayMax + 1)
		if class >= 0 {
			count = fieldsByHand(u.Classes, class)
		}
		m.Objs = append(m.Objs, thing(class, d.someLooseVals(size, count)...))
	}
	for range 1 + d.roll(impl.FrameMax) {
		k := d.roll(len(u.Methods))
		at := d.roll(len(u.Methods[k].Code) + 1)
		m.Frames = append(m.Frames, frame(k, at, d.someLooseVals(size, u.Methods[k].Locals), d.someLooseVals(size, d.roll(impl.StackMax+1))...))
	}
	m.Steps = d.roll(impl.RunMax)
	return m
}

// P40, P46, P48: machines that do not fit, of units that are passed, and of others.
func TestLooseStepsByHand(t *testing.T) {
	d := &dice{state: 77}
	var ends [4]int
	for _, u := range slices.Concat(someUnits(), []impl.Unit{callUnit()}, grownUnits(21, 150)) {
		h := handOf(u)
		for range 60 {
			ends[mustStepAsByHand(t, h, d.someLooseMach(u)).End]++
		}
	}
	if slices.Min(ends[:]) < 50 {
		t.Error("too few of something", ends)
	}
}

// P50: which of both it is; the words are all pairs of some.
func TestJumpsByWords(t *testing.T) {
	some := []int{-128, -127, -2, -1, 0, 1, 2, 126, 127}
	for _, a := range some {
		for _, b := range some {
			for kind, jumps := range map[int]bool{impl.InsLess: a < b, impl.InsSame: a == b} {
				want := edgeMach(word(9))
				want.Steps++
				last(&want).At = 2
				if jumps {
					last(&want).At = 0
				}
				mustStepTo(t, "words", edgeUnit(ins(kind, 0)), edgeMach(word(9), word(a), word(b)), want)
			}
		}
	}
}

func mustNotStepAt(t *testing.T, what string, u impl.Unit, m impl.Mach) {
	t.Helper()
	if got := impl.MachStep(u, m); !equalMachs(got, impl.Mach{}) {
		t.Fatalf("%s: in %v MachStep of\n%v is\n%v, not nothing", what, u, m, got)
	}
}

func TestNoStepsOfUnitsThatAreNotOk(t *testing.T) {
	for _, u := range append(unitsThatAreNotOk(), impl.Unit{}) {
		for _, m := range []impl.Mach{{}, machOf(nil), newByHand(unitOf(twoClasses())), chain(2), {Objs: firstThings(), End: impl.EndDone}, {Objs: firstThings(), End: impl.EndThrown, Out: ref(1)}} {
			mustNotStepAt(t, "the unit is not ok", u, m)
		}
	}
}

func TestNoStepsOfNothing(t *testing.T) {
	for _, u := range someUnits() {
		for _, end := range allInts() {
			for _, m := range []impl.Mach{{End: end}, {End: end, Objs: []impl.Obj{}, Frames: []impl.Frame{}, Said: []int{}}, {End: end, Frames: make([]impl.Frame, 1)}, {End: end, Out: ref(1)}, {End: end, Frames: newByHand(u).Frames}} {
				mustNotStepAt(t, "no things", u, m)
			}
			if m := machOf(nil, newByHand(u).Frames...); end < 0 || end > 3 {
				m.End = end
				mustNotStepAt(t, "no such end", u, m)
			}
		}
	}
}

// Each number of a machine as near, and as far, as an int can be: what is not ok makes no step, all else does as by hand.
func TestStepsOfMachinesWithOneNumberChanged(t *testing.T) {
	steps, not := 0, 0
	eachMach(32, 60, 3, func(h machHand, m impl.Mach) {
		for _, n := range numbersOf(&m) {
			was := *n
			for _, *n = range append(farInts(), -129, -128, -3, -2, -1, 0, 1, 2, 7, 8, 12, 127, 128, 200, 201) {
				if h.machOk(m) {
					steps++
					mustStepAsByHand(t, h.hand, m)
				} else {
					not++
					mustNotStepAt(t, "one number is another", h.u, m)
				}
			}
			*n = was
		}
	})
	if steps < 1000 || not < 1000 {
		t.Error("too few of either", steps, not)
	}
}

// Each list of a machine longer, or shorter.
func TestStepsOfMachinesWithOneListChanged(t *testing.T) {
	eachMach(33, 100, 3, func(h machHand, m impl.Mach) {
		try := func() {
			if h.machOk(m) {
				mustStepAsByHand(t, h.hand, m)
			} else {
				mustNotStepAt(t, "one list is another", h.u, m)
			}
		}
		was := copyMach(m)
		for _, m.Objs = range otherSizes(was.Objs) {
			try()
		}
		m.Objs = was.Objs
		for _, m.Frames = range otherSizes(was.Frames) {
			try()
		}
		m.Frames = was.Frames
		for i := range m.Frames {
			for _, m.Frames[i].Locals = range otherSizes(was.Frames[i].Locals) {
				try()
			}
			m = copyMach(was)
			for _, m.Frames[i].Stack = range otherSizes(m.Frames[i].Stack) {
				try()
			}
			m = copyMach(was)
		}
	})
}

// Values that lead where there is nothing, wherever they stand, also in what is not touched.
func TestNoStepsOfValuesThatLeadNowhere(t *testing.T) {
	u := edgeUnit(ins(impl.InsPush, 1))
	for _, n := range []int{math.MinInt, -1, 15, 16, 207, math.MaxInt} {
		m := edgeMach(word(1))
		m.Frames = append(m.Frames, frame(0, 1, make([]impl.Val, 3)))
		for _, v := range append(machValues(&m), &m.Out) {
			was := *v
			*v = ref(n)
			mustNotStepAt(t, "it leads nowhere", u, m)
			*v = was
		}
	}
}
