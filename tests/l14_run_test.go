package tests

import (
	"slices"
	"testing"

	"loop.example/entail/impl"
)

// inferred has the shapes that its methods want to be told.
func inferred(u impl.Unit) impl.Unit {
	u = copyUnit(u)
	h := handOf(u)
	for i, m := range u.Methods {
		u.Methods[i].Shapes = h.infer(m)
	}
	return copyUnit(u)
}

// countUnit says n down to 1, and gives back 0.
func countUnit(n int) impl.Unit {
	first := withCode(plainMethod(-1, 0), ins(impl.InsPush, n), ins(impl.InsCall, 1), ins(impl.InsBack))
	count := withCode(plainMethod(-1, 0, impl.TypeInt), ins(impl.InsLoad), ins(impl.InsSay), ins(impl.InsLoad), ins(impl.InsPush, 1), ins(impl.InsDo, impl.OpSub), ins(impl.InsStore),
		ins(impl.InsPush, 0), ins(impl.InsLoad), ins(impl.InsLess, 0), ins(impl.InsLoad), ins(impl.InsBack))
	return inferred(impl.Unit{Classes: knownClasses(), Methods: []impl.Method{first, count}})
}

// productUnit gives back the product of 1 to n, by a method that calls itself.
func productUnit(n int) impl.Unit {
	first := withCode(plainMethod(-1, 0), ins(impl.InsPush, n), ins(impl.InsCall, 1), ins(impl.InsBack))
	product := withCode(plainMethod(-1, 0, impl.TypeInt), ins(impl.InsLoad), ins(impl.InsPush, 2), ins(impl.InsLess, 10), ins(impl.InsLoad), ins(impl.InsLoad), ins(impl.InsPush, 1),
		ins(impl.InsDo, impl.OpSub), ins(impl.InsCall, 1), ins(impl.InsDo, impl.OpMul), ins(impl.InsBack), ins(impl.InsPush, 1), ins(impl.InsBack))
	return inferred(impl.Unit{Classes: knownClasses(), Methods: []impl.Method{first, product}})
}

// answerUnit sends to a new thing of that class what 2 and 3 answer: the word that is given and 10, or 20.
func answerUnit(class int) impl.Unit {
	first := withCode(plainMethod(-1, 0), ins(impl.InsNew, class), ins(impl.InsPush, 7), ins(impl.InsSend, 2, 1), ins(impl.InsBack))
	above := withCode(plainMethod(2, 1, impl.TypeInt), ins(impl.InsLoad, 1), ins(impl.InsPush, 10), ins(impl.InsDo, impl.OpAdd), ins(impl.InsBack))
	below := withCode(plainMethod(3, 1, impl.TypeInt), ins(impl.InsLoad, 1), ins(impl.InsPush, 20), ins(impl.InsDo, impl.OpAdd), ins(impl.InsBack))
	return impl.Unit{Classes: knownClasses(), Methods: []impl.Method{first, above, below}}
}

// listUnit makes things that lead to each other, for ever.
func listUnit() impl.Unit {
	return inferred(oneMethod(1, ins(impl.InsNull), ins(impl.InsStore), ins(impl.InsNew, 3), ins(impl.InsDup), ins(impl.InsLoad), ins(impl.InsPut, 2, 1), ins(impl.InsStore), ins(impl.InsGo, 2)))
}

// againUnit throws, and catches, for ever, and says each time what was thrown.
func againUnit() impl.Unit {
	u := oneMethod(0, ins(impl.InsNull), ins(impl.InsThrow), ins(impl.InsGet, 1, 0), ins(impl.InsSay), ins(impl.InsGo, 0))
	return inferred(catching(u, impl.Catch{From: 0, To: 2, At: 2, Class: 1}))
}

func knownUnits() []impl.Unit {
	deep := oneMethod(0, ins(impl.InsCall, 0), ins(impl.InsBack), ins(impl.InsGet, 1, 0), ins(impl.InsBack))
	deep = inferred(catching(deep, impl.Catch{From: 0, To: 1, At: 2, Class: 1}))
	return []impl.Unit{countUnit(3), countUnit(100), productUnit(3), productUnit(4), answerUnit(2), answerUnit(3), listUnit(), againUnit(), deep}
}

// stuckUnits are not passed, and are stuck: at once, by more and more on the stack, behind a call, by what nobody answers, and at the end of the code.
func stuckUnits() []impl.Unit {
	full := oneMethod(0, ins(impl.InsPush, 1), ins(impl.InsPush, 2), ins(impl.InsPush, 3), ins(impl.InsPush, 4), ins(impl.InsCall, 1), ins(impl.InsBack))
	full.Methods = append(full.Methods, plainMethod(-1, 0))
	return []impl.Unit{
		oneMethod(0, ins(impl.InsPop), ins(impl.InsGo)),
		oneMethod(0, ins(impl.InsPush, 1), ins(impl.InsGo)),
		full,
		oneMethod(0, ins(impl.InsNew, 2), ins(impl.InsSend, 2, 1), ins(impl.InsBack)),
		oneMethod(0, ins(impl.InsPush, 5), ins(impl.InsSay)),
		oneMethod(1, ins(impl.InsLoad), ins(impl.InsThrow)),
	}
}

// runUnits are ok; some are not passed.
func runUnits(seed int, count int) []impl.Unit {
	all := slices.Concat(knownUnits(), stuckUnits(), someUnits(), passedUnits(seed, count), grownUnits(seed+1, count))
	d := &dice{state: uint64(seed)}
	for kind := impl.InsPush; kind <= impl.InsSay; kind++ {
		all = append(all, d.hostUnit(kind))
	}
	return all
}

func mustRun(t *testing.T, u impl.Unit, steps int, want impl.Mach) {
	t.Helper()
	if got := impl.MachRun(u, steps); !equalMachs(got, want) {
		t.Fatalf("MachRun of %v and %d is\n%v, not\n%v", u, steps, got, want)
	}
}

func TestKnownRuns(t *testing.T) {
	for _, c := range []struct {
		u     impl.Unit
		end   int
		out   impl.Val
		said  []int
		steps int
		new   int
	}{
		{countUnit(3), impl.EndDone, word(0), []int{3, 2, 1}, 32, 0},
		{countUnit(1), impl.EndDone, word(0), []int{1}, 14, 0},
		{productUnit(1), impl.EndDone, word(1), nil, 8, 0},
		{productUnit(2), impl.EndDone, word(2), nil, 18, 0},
		{productUnit(3), impl.EndDone, word(6), nil, 28, 0},
		{productUnit(4), impl.EndThrown, ref(impl.FaultDeep), nil, 26, 0},
		{answerUnit(2), impl.EndDone, word(17), nil, 8, 1},
		{answerUnit(3), impl.EndDone, word(27), nil, 8, 1},
		{listUnit(), impl.EndNot, word(0), nil, 200, 33},
		{againUnit(), impl.EndNot, word(0), slices.Repeat([]int{impl.FaultNull}, 40), 200, 0},
		{unitOf(twoClasses()), impl.EndDone, word(0), nil, 2, 0},
	} {
		m := impl.MachRun(c.u, impl.RunMax)
		mustUnitPass(t, "known", c.u, true)
		if m.End != c.end || m.Out != c.out || !slices.Equal(m.Said, c.said) || m.Steps != c.steps || len(m.Objs) != impl.FaultRoom+c.new {
			t.Errorf("%v runs to %v", c.u, m)
		}
	}
}

// mustBeAbove is P45.
func mustBeAbove(t *testing.T, u impl.Unit, m impl.Mach) {
	t.Helper()
	if len(m.Frames) > impl.FrameMax {
		t.Fatalf("too many calls in %v", m)
	}
	for _, f := range m.Frames[:max(0, len(m.Frames)-1)] {
		code := u.Methods[f.Method].Code
		if f.At >= len(code) || code[f.At].Kind != impl.InsCall && code[f.At].Kind != impl.InsSend {
			t.Fatalf("a call of %v is above one that does not call: %v", u, m)
		}
	}
}

// P40, P42, P43, P45, P46: a run step by step, from the beginning on; all machines of it are as by hand.
func TestRunsStepByStep(t *testing.T) {
	var ends [4]int
	deepest := 0
	for _, u := range runUnits(40, 100) {
		passed := handOf(u).unitPass()
		all := handOf(u).runByHand()
		m := impl.MachNew(u)
		for k, want := range all {
			if !equalMachs(m, want) {
				t.Fatalf("behind %d steps of %v it is\n%v, not\n%v", k, u, m, want)
			}
			if passed {
				mustFit(t, "behind some steps", u, m)
			}
			mustBeAbove(t, u, m)
			deepest = max(deepest, len(m.Frames))
			next := impl.MachStep(u, m)
			mustMove(t, u, m, next)
			m = next
		}
		mustStepTo(t, "at the end", u, m, m)
		ends[m.End]++
		if passed && m.End == impl.EndStuck {
			t.Fatalf("%v is passed, and stuck: %v", u, m)
		}
	}
	if slices.Min(ends[:]) < 5 || deepest != impl.FrameMax {
		t.Error("too few of something", ends, deepest)
	}
}

// someSteps are few, those around where a run ends among them.
func someSteps(end int) []int {
	var all []int
	for _, k := range []int{0, 1, 2, 3, 5, 8, 20, 100, end - 2, end - 1, end, end + 1, end + 2, impl.RunMax - 1, impl.RunMax} {
		if 0 <= k && k <= impl.RunMax {
			all = append(all, k)
		}
	}
	return all
}

// P42, P43, P44: MachRun is as many steps, and the same by more when it has ended.
func TestRunsOfSomeSteps(t *testing.T) {
	ended, not := 0, 0
	for _, u := range runUnits(41, 100) {
		passed := handOf(u).unitPass()
		all := handOf(u).runByHand()
		end := len(all) - 1
		for _, k := range someSteps(end) {
			m := impl.MachRun(u, k)
			if !equalMachs(m, all[min(k, end)]) {
				t.Fatalf("MachRun of %v and %d is\n%v, not\n%v", u, k, m, all[min(k, end)])
			}
			if m.End == impl.EndNot {
				not++
				if m.Steps != k {
					t.Fatalf("MachRun of %v and %d has made %d steps", u, k, m.Steps)
				}
			} else {
				ended++
				mustRun(t, u, min(k+1, impl.RunMax), m)
				mustRun(t, u, impl.RunMax, m)
			}
			if passed {
				mustFit(t, "behind a run", u, m)
			}
			mustBeAbove(t, u, m)
		}
	}
	if ended < 500 || not < 500 {
		t.Error("too few of either", ended, not)
	}
}

// P42, P43: of one that runs for ever, and of one that ends, all numbers of steps.
func TestRunsOfAllSteps(t *testing.T) {
	for _, u := range knownUnits() {
		m := impl.MachNew(u)
		for k := range impl.RunMax + 1 {
			mustRun(t, u, k, m)
			m = impl.MachStep(u, m)
		}
	}
}

// P43: a run of no steps is at the beginning.
func TestRunsOfNoSteps(t *testing.T) {
	for _, u := range runUnits(42, 50) {
		mustRun(t, u, 0, newByHand(u))
	}
}

// P44, P48: all steps more leave one that is stuck as it is.
func TestRunsThatAreStuck(t *testing.T) {
	for i, steps := range []int{1, 9, 7, 2, 3, 2} {
		u := stuckUnits()[i]
		mustUnitPass(t, "stuck", u, false)
		ahead, m := impl.MachRun(u, steps-1), impl.MachRun(u, steps)
		if m.End != impl.EndStuck || m.Steps != steps {
			t.Fatalf("%v is not stuck: %v", u, m)
		}
		mustBeStuck(t, "ahead of it", u, ahead)
		for k := steps; k <= impl.RunMax; k++ {
			mustRun(t, u, k, m)
		}
	}
}

func TestNoRunsOfWrongSteps(t *testing.T) {
	for _, u := range knownUnits() {
		for _, steps := range append(allInts(), 199, 200, 201, 202) {
			if steps < 0 || steps > 200 {
				mustRun(t, u, steps, impl.Mach{})
			} else if m := impl.MachRun(u, steps); len(m.Objs) < impl.FaultRoom {
				t.Fatalf("MachRun of %v and %d is %v", u, steps, m)
			}
		}
	}
}

func TestNoRunsOfUnitsThatAreNotOk(t *testing.T) {
	for _, u := range append(unitsThatAreNotOk(), impl.Unit{}) {
		for _, steps := range append(allInts(), 199, 200, 201) {
			mustRun(t, u, steps, impl.Mach{})
		}
	}
}

// P56: a class more, below any.
func TestRunsWithAClassMore(t *testing.T) {
	d := &dice{state: 5}
	count := 0
	for _, u := range runUnits(43, 100) {
		if len(u.Classes) == impl.ClassMax {
			continue
		}
		for super := range u.Classes {
			more := copyUnit(u)
			more.Classes = withClass(u.Classes, super, ownFields(d.roll(6), len(u.Classes), len(u.Classes)+1))
			mustUnit(t, "a class more", more, true)
			count++
			for _, k := range []int{0, 1, 7, impl.RunMax} {
				mustRun(t, more, k, impl.MachRun(u, k))
			}
		}
	}
	if count < 100 {
		t.Error("too few", count)
	}
}

// answersAlike says whether all that is sent in a unit is answered, by whatever it may be sent to, as it was ahead of the method more.
func answersAlike(u impl.Unit, more impl.Unit) bool {
	for _, m := range u.Methods {
		for _, i := range m.Code {
			for class := range u.Classes {
				if i.Kind == impl.InsSend && impl.ClassUp(u.Classes, class, i.A) && impl.UnitFind(u, class, i.B) != impl.UnitFind(more, class, i.B) {
					return false
				}
			}
		}
	}
	return true
}

// P56: a method more, nobody's or somebody's, unless that one answers what another one, or none, did.
func TestRunsWithAMethodMore(t *testing.T) {
	d := &dice{state: 6}
	whose := map[bool]int{}
	others := 0
	for _, u := range runUnits(44, 200) {
		if len(u.Methods) == impl.MethodMax {
			continue
		}
		for class := -1; class < len(u.Classes); class++ {
			more := copyUnit(u)
			m := plainMethod(class, 0)
			if class != -1 {
				m.Sel = d.roll(impl.SelMax)
			}
			more.Methods = append(more.Methods, m)
			if !impl.UnitOk(more) {
				continue
			}
			growMethod(d, more, len(u.Methods))
			if !answersAlike(u, more) {
				others++
				continue
			}
			whose[class == -1]++
			for _, k := range []int{0, 1, 7, impl.RunMax} {
				mustRun(t, more, k, impl.MachRun(u, k))
			}
		}
	}
	if whose[true] < 100 || whose[false] < 100 || others == 0 {
		t.Error("too few of something", whose, others)
	}
}

// A class below that answers for itself from then on is not what was there: by the chapter's own words that method is called.
func TestRunsWithAnAnswerMore(t *testing.T) {
	more := answerUnit(3)
	u := copyUnit(more)
	u.Methods = u.Methods[:2]
	if m := impl.MachRun(u, impl.RunMax); m.Out != word(17) {
		t.Errorf("it is %v", m)
	}
	if m := impl.MachRun(more, impl.RunMax); m.Out != word(27) {
		t.Errorf("with the method more it is %v", m)
	}
}
